/- Layer 13: the relations of a group, by the program. -/
import Derived.Test.YtofclgapgjcflaaDoorDw
namespace Go.Proofs.YtofclgapgjcflaaDoor
open Go.RowKit Go.Proofs.Ws
set_option maxRecDepth 100000
/-- a row under way: the first j worlds have seen one agent more -/
def mixL (F : Nat → Nat → Nat) (n k j : Nat) : List Nat := (List.range n).map (fun w => if w < j then F (k + 1) w else F k w)
theorem mixL_len (F : Nat → Nat → Nat) (n k j : Nat) : (mixL F n k j).length = n := by simp [mixL]
theorem mixL_zero (F : Nat → Nat → Nat) (n k : Nat) : mixL F n k 0 = (List.range n).map (F k) := by simp [mixL]
theorem mixL_full (F : Nat → Nat → Nat) (n k : Nat) : mixL F n k n = (List.range n).map (F (k + 1)) := by
  unfold mixL
  apply List.map_congr_left
  intro w hw
  rw [if_pos (List.mem_range.1 hw)]
theorem mixL_get {F : Nat → Nat → Nat} {n k j : Nat} (h : j < n) : (mixL F n k j).getD j 0 = F k j := by
  simp [mixL, h]
theorem mixL_set {F : Nat → Nat → Nat} {n k j : Nat} (_h : j < n) {x : Nat} (hx : x = F (k + 1) j) : (mixL F n k j).set j x = mixL F n k (j + 1) := by
  subst hx
  unfold mixL
  apply List.ext_getElem (by simp)
  intro i h1 h2
  rw [List.getElem_set]
  simp only [List.getElem_map, List.getElem_range]
  by_cases e : j = i
  · subst e
    rw [if_pos rfl, if_pos (by omega)]
  · rw [if_neg e]
    by_cases h3 : i < j
    · rw [if_pos h3, if_pos (by omega)]
    · rw [if_neg h3, if_neg (by omega)]
theorem bit_even {g k : Nat} (hg : g < 18446744073709551616) : bits .and .i64 ((g : Int) / 2 ^ k) 1 = if g.testBit k then 1 else 0 := by
  rw [show ((g : Int) / 2 ^ k) = ((g / 2 ^ k : Nat) : Int) by simp]
  show IntKind.i64.wrap ((BitVec.ofInt 64 ((g / 2 ^ k : Nat) : Int) &&& BitVec.ofInt 64 ((1 : Nat) : Int)).toNat : Int) = _
  rw [BitVec.toNat_and, ofInt_u64 _ (Nat.lt_of_le_of_lt (Nat.div_le_self _ _) hg), ofInt_u64 1 (by decide), Nat.and_one_is_mod, Nat.testBit_eq_decide_div_mod_eq]
  by_cases h : g / 2 ^ k % 2 = 1
  · rw [h]; rfl
  · rw [show g / 2 ^ k % 2 = 0 by omega]; rfl
theorem gorK_lt64 {rel : List (List Nat)} {g : Nat} (h : ∀ k x, (rel.getD k []).getD x 0 < 18446744073709551616) : ∀ k x, gorK rel g x k < 18446744073709551616
  | 0, x => by simp [gorK]
  | k + 1, x => by
    have ih := gorK_lt64 (g := g) h k x
    unfold gorK
    split
    · exact Nat.or_lt_two_pow (n := 64) ih (h k x)
    · exact ih
theorem pGroupOp_any (x y : Nat) (w : World) (hx : x < 18446744073709551616) (hy : y < 18446744073709551616) :
    Calls Tryd.prog 49 #[.int .u64 (x : Int), .int .u64 (y : Int)] w fun e w' => e = .returned (.int .u64 ((x ||| y : Nat) : Int)) ∧ w' = w := by
  have ho := u64_or_nat x y hx hy
  go_enter Tryd.func49, Tryd.ntmps49
  go_wp2
  go_ret
  exact ⟨rfl, rfl⟩
theorem pMeetOp_any (x y : Nat) (w : World) (hx : x < 18446744073709551616) (hy : y < 18446744073709551616) :
    Calls Tryd.prog 51 #[.int .u64 (x : Int), .int .u64 (y : Int)] w fun e w' => e = .returned (.int .u64 ((x &&& y : Nat) : Int)) ∧ w' = w := by
  have ho := u64_and_nat x y hx hy
  go_enter Tryd.func51, Tryd.ntmps51
  go_wp2
  go_ret
  exact ⟨rfl, rfl⟩
set_option maxHeartbeats 8000000 in
theorem pGroupComb_any (m : Mo) (v : Value) (gi : Int) (w : World) (hM : MoR w w.heap.size v m) (hgi : -9223372036854775808 ≤ gi ∧ gi < 9223372036854775808) :
    Calls Tryd.prog 48 #[v, .int .i64 gi, .int .u64 (0 : Int), .func (.func 49) #[] #[]] w fun e w' => ∃ A c, e = .returned (.slice A (groupL m gi).length c) ∧ Reads w' w'.heap.size 1 A (groupL m gi).length (us (groupL m gi)) ∧ Below w.heap.size w w' := by
  obtain ⟨A1, c1, A2, c2, rfl, hv, hr⟩ := hM.ex
  have HB := Lib.hid (MBox.made w m.n (.slice A1 m.val.length c1) (.slice A2 m.rel.length c2))
  have HBe : Hid (Below w.heap.size w (w.alloc (.cells #[.int .i64 m.n, .slice A1 m.val.length c1, .slice A2 m.rel.length c2] 25))) := Lib.hid ((Below.refl _ w).alloc (Nat.le_refl _) _)
  have HC := Lib.hid (fun W (hb : Below w.heap.size w W) => pCheck_any m (.agg #[.int .i64 m.n, .slice A1 m.val.length c1, .slice A2 m.rel.length c2]) W (hM.below hb hb.size))
  have HR := Lib.hid hr
  have HMM := Lib.hid hM
  have HE : Hid (isG m gi = false → groupL m gi = []) := Lib.hid (fun h => by unfold groupL; rw [h]; rfl)
  have HS : Hid (isG m gi = true → groupL m gi = (List.range m.n.toNat).map (fun x => gorK m.rel gi.toNat x m.rel.length)) := Lib.hid (fun h => by unfold groupL; rw [h]; rfl)
  clear hM hv hr
  by_cases hz : chkM m = 0
  · have ok := chkM_ok hz
    have hq4 := ok.agents
    rw [hz] at HC
    have hpl : (2 : Nat) ^ m.rel.length ≤ 2 ^ 4 := Nat.pow_le_pow_right (by decide) hq4
    have hpw : wrap64 (2 ^ m.rel.length) = ((2 ^ m.rel.length : Nat) : Int) := by
      have e : ((2 : Int) ^ m.rel.length) = ((2 ^ m.rel.length : Nat) : Int) := by simp
      rw [e]; generalize (2 : Nat) ^ m.rel.length = z at *; unfold wrap64; omega
    by_cases h1 : gi < 1
    · have d1 : decide (gi < 1) = true := decide_eq_true h1
      have HV := Lib.hid (HE.out (by unfold isG; rw [show decide (1 ≤ gi) = false from decide_eq_false (by omega)]; simp))
      generalize groupL m gi = res at *
      clear ok hz hpw hpl
      go_enter Tryd.func48, Tryd.ntmps48
      go_wp2_with fail
      refine (HC.out _ HBe.out).mono ?_
      rintro e w2 ⟨rfl, hb2⟩
      have HB2 := Lib.hid (HBe.out.trans (hb2.mono HBe.out.size))
      clear hb2
      go_wp2
      go_ret
      rw [HV.out]
      exact ⟨none, 0, rfl, (by unfold us; exact Reads.none_), HB2.out⟩
    · by_cases h2 : (2 : Int) ^ m.rel.length ≤ gi
      · have d1 : decide (gi < 1) = false := decide_eq_false h1
        have d2 : decide (((2 ^ m.rel.length : Nat) : Int) ≤ gi) = true := decide_eq_true (by simpa using h2)
        have HV := Lib.hid (HE.out (by unfold isG; rw [show decide (gi < 2 ^ m.rel.length) = false from decide_eq_false (by omega)]; simp))
        generalize groupL m gi = res at *
        generalize (2 : Nat) ^ m.rel.length = p2q at *
        clear ok hz hpl
        go_enter Tryd.func48, Tryd.ntmps48
        go_wp2_with fail
        refine (HC.out _ HBe.out).mono ?_
        rintro e w2 ⟨rfl, hb2⟩
        have HB2 := Lib.hid (HBe.out.trans (hb2.mono HBe.out.size))
        have HX := Lib.hid (HB.out.below hb2 HB.out.lt)
        clear hb2
        have b2 := HX.out.c2
        go_wp2
        go_ret
        rw [HV.out]
        exact ⟨none, 0, rfl, (by unfold us; exact Reads.none_), HB2.out⟩
      · have d1 : decide (gi < 1) = false := decide_eq_false h1
        have d2 : decide (((2 ^ m.rel.length : Nat) : Int) ≤ gi) = false := decide_eq_false (by simpa using h2)
        have HV := Lib.hid (HS.out (by unfold isG; rw [decide_eq_true hz, decide_eq_true (show 1 ≤ gi by omega), decide_eq_true (show gi < 2 ^ m.rel.length by omega)]; rfl))
        obtain ⟨g, rfl⟩ : ∃ g : Nat, gi = (g : Int) := ⟨gi.toNat, by omega⟩
        rw [show ((g : Nat) : Int).toNat = g from rfl] at HV
        have hg64 : g < 18446744073709551616 := by omega
        have d3 : decide (2 ^ m.rel.length ≤ g) = false := by
          rw [decide_eq_false_iff_not] at d2 ⊢
          exact fun h => d2 (Int.ofNat_le.2 h)
        clear d2
        have HNUM := Lib.hid ok.num
        have hle := ok.le
        have hpos := ok.pos
        have HRX := Lib.hid (fun k x => Nat.lt_of_lt_of_le (relW_lt ok.rel k x) (show 2 ^ m.n.toNat ≤ 18446744073709551616 from Nat.pow_le_pow_right (show 0 < 2 by decide) ok.le))
        have HRL := Lib.hid (fun k (h : k < m.rel.length) => ok.len (m.rel.getD k []) (getD_mem' h))
        have HFL : Hid (∀ k x, gorK m.rel g x k < 18446744073709551616) := Lib.hid (fun k x => (by exact gorK_lt64 HRX.out k x))
        generalize hres : groupL m (g : Int) = res at *
        have HRES := Lib.hid hres
        clear hres HE HS
        generalize hn : m.n.toNat = n at *
        have hmn : m.n = (n : Int) := by rw [HNUM.out]
        rw [hmn] at HB HBe HC HMM
        rw [hmn]
        clear ok hz hpl hn hmn HNUM
        generalize (2 : Nat) ^ m.rel.length = p2q at *
        generalize hrel : m.rel = rel at *
        have HREL := Lib.hid hrel
        clear hrel
        generalize hq : rel.length = q at *
        have HQ := Lib.hid hq
        clear hq
        have HRP := Lib.hid (fun W g0 (h : g0 < W.heap.size) hc => pRepeat_any 0 n g0 W hle hpos h hc)
        have HBIT := Lib.hid (fun k => bit_even (k := k) hg64)
        clear hg64
        go_enter Tryd.func48, Tryd.ntmps48
        go_wp2_with fail
        refine (HC.out _ HBe.out).mono ?_
        rintro e w2 ⟨rfl, hb2⟩
        have HB2 := Lib.hid (HBe.out.trans (hb2.mono HBe.out.size))
        have HX := Lib.hid (HB.out.below hb2 HB.out.lt)
        clear hb2
        have b0 := HX.out.c0
        have b2 := HX.out.c2
        have HNEW : Hid (w2.heap.size < (w2.alloc (.cells (us [0]).toArray 31)).heap.size ∧ (w2.alloc (.cells (us [0]).toArray 31)).cell? ⟨w2.heap.size, 0, none⟩ = some (.int .u64 (0 : Int))) := Lib.hid ⟨by simp, (HoldsU.made w2 [0]).cell 0 (by simp)⟩
        have hlt0 := HX.out.lt
        go_wp2_with fail
        refine (HRP.out _ w2.heap.size HNEW.out.1 HNEW.out.2).mono ?_
        rintro e w3 ⟨rfl, hU3, hb3⟩
        have HWA : Hid (Below w2.heap.size w2 w3) := Lib.hid (((Below.refl _ w2).alloc (Nat.le_refl _) _).trans (hb3.mono (by simp)))
        have hsz3 : (w2.alloc (.cells (us [0]).toArray 31)).heap.size = w2.heap.size + 1 := by simp
        have HU3 : Hid (HoldsU w3 (w2.heap.size + 1) (mixL (fun k x => gorK rel g x k) n 0 0)) := Lib.hid (by
          have e : mixL (fun k x => gorK rel g x k) n 0 0 = List.replicate n 0 := by
            rw [mixL_zero]
            apply List.ext_getElem (by simp)
            intro i h1 h2
            simp [gorK]
          rw [e, ← hsz3]
          exact hU3)
        have HG0 : Hid (w.heap.size < w2.heap.size + 1) := Lib.hid (by omega)
        have HB3 := Lib.hid (HB2.out.trans (HWA.out.mono HB2.out.size))
        have HX3 := Lib.hid (HX.out.below HWA.out HX.out.lt)
        have c2' := HX3.out.c2
        rw [hsz3]
        clear hU3 hb3 hsz3 b0 b2 HNEW HWA HX HB2
        generalize w2.heap.size + 1 = G at *
        go_wp2
        obtain ⟨FF, hFF⟩ : ∃ FF : Nat → Nat → Nat, FF = fun k x => gorK rel g x k := ⟨_, rfl⟩
        rw [← hFF] at HU3
        have HHIT : Hid (∀ k x, g.testBit k = true → FF (k + 1) x = FF k x ||| (rel.getD k []).getD x 0) := Lib.hid (fun k x h => by rw [hFF]; show gorK rel g x (k + 1) = _; rw [gorK, if_pos h])
        have HMISS : Hid (∀ k x, g.testBit k = false → FF (k + 1) x = FF k x) := Lib.hid (fun k x h => by rw [hFF]; show gorK rel g x (k + 1) = _; rw [gorK, h]; rfl)
        have HFL2 : Hid (∀ k x, FF k x < 18446744073709551616) := Lib.hid (fun k x => by rw [hFF]; exact HFL.out k x)
        have HV2 : Hid (res = (List.range n).map (FF q)) := Lib.hid (by rw [HV.out, hFF])
        clear hFF HFL HV c2'
        go_loopw [10, 11, 12, 36, 48] (fun _ _ _ i _ wr => ∃ k : Nat, k ≤ q ∧ i = .int .i64 k ∧ Hid (HoldsU wr G (mixL FF n k 0)) ∧ Hid (Below w.heap.size w wr)) (fun _ _ _ i _ _ => q - (intOf i).toNat)
        case atStart => exact ⟨0, Nat.zero_le _, rfl, HU3, HB3⟩
        case round =>
          obtain ⟨k, hk, rfl, HU, HBk⟩ := hrel
          by_cases hlt : k < q
          · obtain ⟨ad, Aj, cj, rfl, hb, hc0, hrj, hlj⟩ := HR.out.at_ hlt
            have hc := (HBk.out.cell (p := ad.add k) (by rw [block_of_add]; exact hb)).trans hc0
            have hlen := HRL.out k hlt
            rw [hlen] at hc hrj
            have HRJ := Lib.hid hrj
            have hba := HBIT.out k
            clear hc0 hlen hrj hlj
            by_cases hbit : g.testBit k = true
            · rw [if_pos hbit] at hba
              have HH := Lib.hid (fun x => HHIT.out k x hbit)
              clear hbit
              go_wp2
              go_loopw [12, 48] (fun _ i wy => ∃ j : Nat, j ≤ n ∧ i = .int .i64 j ∧ Hid (HoldsU wy G (mixL FF n k j)) ∧ Hid (Below w.heap.size w wy)) (fun _ i _ => n - (intOf i).toNat)
              case atStart => exact ⟨0, Nat.zero_le _, rfl, HU, HBk⟩
              case round =>
                obtain ⟨j, hj, rfl, HUj, HBj⟩ := hrel
                by_cases hlt2 : j < n
                · obtain ⟨aj, rfl, haj, hcj⟩ := (HRJ.out.below HBj.out).word_k (k := j) hlt2
                  have hcu := HUj.out.cell j (by rw [mixL_len]; exact hlt2)
                  rw [mixL_get hlt2] at hcu
                  have HSET := Lib.hid (fun (x : Nat) h => mixL_set (F := FF) (k := k) hlt2 (x := x) h)
                  have HNX := Lib.hid (HSET.out _ (HH.out j).symm)
                  have HII := Lib.hid (pGroupOp_any (FF k j) ((rel.getD k []).getD j 0) wr.drew (HFL2.out k j) (HRX.out k j))
                  clear HSET
                  have hfu := HUj.out.free j
                  have hcu2 : wr.drew.cell? ⟨G, j, none⟩ = _ := hcu
                  have hfu2 : wr.drew.frozen? ⟨G, j, none⟩ = false := hfu
                  have hcj2 : wr.drew.cell? (aj.add j) = _ := hcj
                  have HUd : Hid (HoldsU wr.drew G (mixL FF n k j)) := HUj
                  have HBd := Lib.hid HBj.out.drew
                  generalize (rel.getD k []).getD j 0 = z at *
                  generalize FF k j = x at *
                  go_wp2
                  refine wp_region_still_tail 13 (by kernel_rfl) (by kernel_rfl) ?_
                  simp only [List.take_succ_cons, List.take_zero, List.drop_succ_cons, List.drop_zero]
                  repeat still_step
                  still_call HII.out
                  repeat still_step
                  try refine wpStill_nil ?_
                  change wpList _ _ _ _ _ wr.drew
                  clear hcu hfu hcj HII hcu2 hfu2 hcj2 HUj HBj
                  have hcu := HUd.out.cell j (by rw [mixL_len]; exact hlt2)
                  have hfu := HUd.out.free j
                  generalize wr.drew = w6 at *
                  go_wp2
                  go_roundw
                  case rel => exact ⟨j + 1, by omega, by go_num, Lib.hid (by have h9 := HUd.out.put j (x ||| z); rw [HNX.out] at h9; exact h9), Lib.hid (HBd.out.trans ((OnlyB.set G j w6 _).below (Nat.le_of_lt HG0.out) HBd.out.size))⟩
                  case measure => first | (simp [intOf]; done) | (simp [intOf]; omega)
                · obtain rfl : n = j := by omega
                  have HUf := HUj
                  rw [mixL_full, ← mixL_zero] at HUf
                  clear hlt2 HUj
                  go_wp2
                  go_roundw
                  case rel => exact ⟨k + 1, by omega, by go_num, HUf, HBj⟩
                  case measure => first | (simp [intOf]; done) | (simp [intOf]; omega)
            · have hbit2 : g.testBit k = false := by simpa using hbit
              rw [if_neg hbit] at hba
              have HUf : Hid (HoldsU wr G (mixL FF n (k + 1) 0)) := Lib.hid (by
                have e : mixL FF n (k + 1) 0 = mixL FF n k 0 := by
                  rw [mixL_zero, mixL_zero]
                  exact List.map_congr_left (fun x _ => HMISS.out k x hbit2)
                rw [e]; exact HU.out)
              clear hbit hbit2
              go_wp2
              go_roundw
              case rel => exact ⟨k + 1, by omega, by go_num, HUf, HBk⟩
              case measure => first | (simp [intOf]; done) | (simp [intOf]; omega)
          · obtain rfl : q = k := by omega
            clear hlt
            go_wp2
            go_ret
            have h9 := HU.out.reads
            rw [mixL_zero, ← HV2.out] at h9
            have h8 : res.length = n := by rw [HV2.out]; simp
            rw [h8] at h9 ⊢
            exact ⟨_, _, rfl, h9, HBk.out⟩
  · have hne : (chkM m != 0) = true := by rw [bne_iff_ne]; exact hz
    have HV := Lib.hid (HE.out (by unfold isG; rw [decide_eq_false hz]; rfl))
    generalize groupL m gi = res at *
    generalize chkM m = ce at *
    clear hz
    go_enter Tryd.func48, Tryd.ntmps48
    go_wp2_with fail
    refine (HC.out _ HBe.out).mono ?_
    rintro e w2 ⟨rfl, hb2⟩
    have HB2 := Lib.hid (HBe.out.trans (hb2.mono HBe.out.size))
    clear hb2
    go_wp2
    go_ret
    rw [HV.out]
    exact ⟨none, 0, rfl, (by unfold us; exact Reads.none_), HB2.out⟩
set_option maxHeartbeats 8000000 in
theorem pMeetComb_any (m : Mo) (v : Value) (gi : Int) (w : World) (hM : MoR w w.heap.size v m) (hgi : -9223372036854775808 ≤ gi ∧ gi < 9223372036854775808) :
    Calls Tryd.prog 48 #[v, .int .i64 gi, .int .u64 (18446744073709551615 : Int), .func (.func 51) #[] #[]] w fun e w' => ∃ A c, e = .returned (.slice A (meetL m gi).length c) ∧ Reads w' w'.heap.size 1 A (meetL m gi).length (us (meetL m gi)) ∧ Below w.heap.size w w' := by
  obtain ⟨A1, c1, A2, c2, rfl, hv, hr⟩ := hM.ex
  have HB := Lib.hid (MBox.made w m.n (.slice A1 m.val.length c1) (.slice A2 m.rel.length c2))
  have HBe : Hid (Below w.heap.size w (w.alloc (.cells #[.int .i64 m.n, .slice A1 m.val.length c1, .slice A2 m.rel.length c2] 25))) := Lib.hid ((Below.refl _ w).alloc (Nat.le_refl _) _)
  have HC := Lib.hid (fun W (hb : Below w.heap.size w W) => pCheck_any m (.agg #[.int .i64 m.n, .slice A1 m.val.length c1, .slice A2 m.rel.length c2]) W (hM.below hb hb.size))
  have HR := Lib.hid hr
  have HMM := Lib.hid hM
  have HE : Hid (isG m gi = false → meetL m gi = []) := Lib.hid (fun h => by unfold meetL; rw [h]; rfl)
  have HS : Hid (isG m gi = true → meetL m gi = (List.range m.n.toNat).map (fun x => gandK 18446744073709551615 m.rel gi.toNat x m.rel.length)) := Lib.hid (fun h => by unfold meetL; rw [h]; rfl)
  clear hM hv hr
  by_cases hz : chkM m = 0
  · have ok := chkM_ok hz
    have hq4 := ok.agents
    rw [hz] at HC
    have hpl : (2 : Nat) ^ m.rel.length ≤ 2 ^ 4 := Nat.pow_le_pow_right (by decide) hq4
    have hpw : wrap64 (2 ^ m.rel.length) = ((2 ^ m.rel.length : Nat) : Int) := by
      have e : ((2 : Int) ^ m.rel.length) = ((2 ^ m.rel.length : Nat) : Int) := by simp
      rw [e]; generalize (2 : Nat) ^ m.rel.length = z at *; unfold wrap64; omega
    by_cases h1 : gi < 1
    · have d1 : decide (gi < 1) = true := decide_eq_true h1
      have HV := Lib.hid (HE.out (by unfold isG; rw [show decide (1 ≤ gi) = false from decide_eq_false (by omega)]; simp))
      generalize meetL m gi = res at *
      clear ok hz hpw hpl
      go_enter Tryd.func48, Tryd.ntmps48
      go_wp2_with fail
      refine (HC.out _ HBe.out).mono ?_
      rintro e w2 ⟨rfl, hb2⟩
      have HB2 := Lib.hid (HBe.out.trans (hb2.mono HBe.out.size))
      clear hb2
      go_wp2
      go_ret
      rw [HV.out]
      exact ⟨none, 0, rfl, (by unfold us; exact Reads.none_), HB2.out⟩
    · by_cases h2 : (2 : Int) ^ m.rel.length ≤ gi
      · have d1 : decide (gi < 1) = false := decide_eq_false h1
        have d2 : decide (((2 ^ m.rel.length : Nat) : Int) ≤ gi) = true := decide_eq_true (by simpa using h2)
        have HV := Lib.hid (HE.out (by unfold isG; rw [show decide (gi < 2 ^ m.rel.length) = false from decide_eq_false (by omega)]; simp))
        generalize meetL m gi = res at *
        generalize (2 : Nat) ^ m.rel.length = p2q at *
        clear ok hz hpl
        go_enter Tryd.func48, Tryd.ntmps48
        go_wp2_with fail
        refine (HC.out _ HBe.out).mono ?_
        rintro e w2 ⟨rfl, hb2⟩
        have HB2 := Lib.hid (HBe.out.trans (hb2.mono HBe.out.size))
        have HX := Lib.hid (HB.out.below hb2 HB.out.lt)
        clear hb2
        have b2 := HX.out.c2
        go_wp2
        go_ret
        rw [HV.out]
        exact ⟨none, 0, rfl, (by unfold us; exact Reads.none_), HB2.out⟩
      · have d1 : decide (gi < 1) = false := decide_eq_false h1
        have d2 : decide (((2 ^ m.rel.length : Nat) : Int) ≤ gi) = false := decide_eq_false (by simpa using h2)
        have HV := Lib.hid (HS.out (by unfold isG; rw [decide_eq_true hz, decide_eq_true (show 1 ≤ gi by omega), decide_eq_true (show gi < 2 ^ m.rel.length by omega)]; rfl))
        obtain ⟨g, rfl⟩ : ∃ g : Nat, gi = (g : Int) := ⟨gi.toNat, by omega⟩
        rw [show ((g : Nat) : Int).toNat = g from rfl] at HV
        have hg64 : g < 18446744073709551616 := by omega
        have d3 : decide (2 ^ m.rel.length ≤ g) = false := by
          rw [decide_eq_false_iff_not] at d2 ⊢
          exact fun h => d2 (Int.ofNat_le.2 h)
        clear d2
        have HNUM := Lib.hid ok.num
        have hle := ok.le
        have hpos := ok.pos
        have HRX := Lib.hid (fun k x => Nat.lt_of_lt_of_le (relW_lt ok.rel k x) (show 2 ^ m.n.toNat ≤ 18446744073709551616 from Nat.pow_le_pow_right (show 0 < 2 by decide) ok.le))
        have HRL := Lib.hid (fun k (h : k < m.rel.length) => ok.len (m.rel.getD k []) (getD_mem' h))
        have HFL : Hid (∀ k x, gandK 18446744073709551615 m.rel g x k < 18446744073709551616) := Lib.hid (fun k x => (by have h := gandK_le 18446744073709551615 m.rel g x k; omega))
        generalize hres : meetL m (g : Int) = res at *
        have HRES := Lib.hid hres
        clear hres HE HS
        generalize hn : m.n.toNat = n at *
        have hmn : m.n = (n : Int) := by rw [HNUM.out]
        rw [hmn] at HB HBe HC HMM
        rw [hmn]
        clear ok hz hpl hn hmn HNUM
        generalize (2 : Nat) ^ m.rel.length = p2q at *
        generalize hrel : m.rel = rel at *
        have HREL := Lib.hid hrel
        clear hrel
        generalize hq : rel.length = q at *
        have HQ := Lib.hid hq
        clear hq
        have HRP := Lib.hid (fun W g0 (h : g0 < W.heap.size) hc => pRepeat_any 18446744073709551615 n g0 W hle hpos h hc)
        have HBIT := Lib.hid (fun k => bit_even (k := k) hg64)
        clear hg64
        go_enter Tryd.func48, Tryd.ntmps48
        go_wp2_with fail
        refine (HC.out _ HBe.out).mono ?_
        rintro e w2 ⟨rfl, hb2⟩
        have HB2 := Lib.hid (HBe.out.trans (hb2.mono HBe.out.size))
        have HX := Lib.hid (HB.out.below hb2 HB.out.lt)
        clear hb2
        have b0 := HX.out.c0
        have b2 := HX.out.c2
        have HNEW : Hid (w2.heap.size < (w2.alloc (.cells (us [18446744073709551615]).toArray 31)).heap.size ∧ (w2.alloc (.cells (us [18446744073709551615]).toArray 31)).cell? ⟨w2.heap.size, 0, none⟩ = some (.int .u64 (18446744073709551615 : Int))) := Lib.hid ⟨by simp, (HoldsU.made w2 [18446744073709551615]).cell 0 (by simp)⟩
        have hlt0 := HX.out.lt
        go_wp2_with fail
        refine (HRP.out _ w2.heap.size HNEW.out.1 HNEW.out.2).mono ?_
        rintro e w3 ⟨rfl, hU3, hb3⟩
        have HWA : Hid (Below w2.heap.size w2 w3) := Lib.hid (((Below.refl _ w2).alloc (Nat.le_refl _) _).trans (hb3.mono (by simp)))
        have hsz3 : (w2.alloc (.cells (us [18446744073709551615]).toArray 31)).heap.size = w2.heap.size + 1 := by simp
        have HU3 : Hid (HoldsU w3 (w2.heap.size + 1) (mixL (fun k x => gandK 18446744073709551615 rel g x k) n 0 0)) := Lib.hid (by
          have e : mixL (fun k x => gandK 18446744073709551615 rel g x k) n 0 0 = List.replicate n 18446744073709551615 := by
            rw [mixL_zero]
            apply List.ext_getElem (by simp)
            intro i h1 h2
            simp [gandK]
          rw [e, ← hsz3]
          exact hU3)
        have HG0 : Hid (w.heap.size < w2.heap.size + 1) := Lib.hid (by omega)
        have HB3 := Lib.hid (HB2.out.trans (HWA.out.mono HB2.out.size))
        have HX3 := Lib.hid (HX.out.below HWA.out HX.out.lt)
        have c2' := HX3.out.c2
        rw [hsz3]
        clear hU3 hb3 hsz3 b0 b2 HNEW HWA HX HB2
        generalize w2.heap.size + 1 = G at *
        go_wp2
        obtain ⟨FF, hFF⟩ : ∃ FF : Nat → Nat → Nat, FF = fun k x => gandK 18446744073709551615 rel g x k := ⟨_, rfl⟩
        rw [← hFF] at HU3
        have HHIT : Hid (∀ k x, g.testBit k = true → FF (k + 1) x = FF k x &&& (rel.getD k []).getD x 0) := Lib.hid (fun k x h => by rw [hFF]; show gandK 18446744073709551615 rel g x (k + 1) = _; rw [gandK, if_pos h])
        have HMISS : Hid (∀ k x, g.testBit k = false → FF (k + 1) x = FF k x) := Lib.hid (fun k x h => by rw [hFF]; show gandK 18446744073709551615 rel g x (k + 1) = _; rw [gandK, h]; rfl)
        have HFL2 : Hid (∀ k x, FF k x < 18446744073709551616) := Lib.hid (fun k x => by rw [hFF]; exact HFL.out k x)
        have HV2 : Hid (res = (List.range n).map (FF q)) := Lib.hid (by rw [HV.out, hFF])
        clear hFF HFL HV c2'
        go_loopw [10, 11, 12, 36, 48] (fun _ _ _ i _ wr => ∃ k : Nat, k ≤ q ∧ i = .int .i64 k ∧ Hid (HoldsU wr G (mixL FF n k 0)) ∧ Hid (Below w.heap.size w wr)) (fun _ _ _ i _ _ => q - (intOf i).toNat)
        case atStart => exact ⟨0, Nat.zero_le _, rfl, HU3, HB3⟩
        case round =>
          obtain ⟨k, hk, rfl, HU, HBk⟩ := hrel
          by_cases hlt : k < q
          · obtain ⟨ad, Aj, cj, rfl, hb, hc0, hrj, hlj⟩ := HR.out.at_ hlt
            have hc := (HBk.out.cell (p := ad.add k) (by rw [block_of_add]; exact hb)).trans hc0
            have hlen := HRL.out k hlt
            rw [hlen] at hc hrj
            have HRJ := Lib.hid hrj
            have hba := HBIT.out k
            clear hc0 hlen hrj hlj
            by_cases hbit : g.testBit k = true
            · rw [if_pos hbit] at hba
              have HH := Lib.hid (fun x => HHIT.out k x hbit)
              clear hbit
              go_wp2
              go_loopw [12, 48] (fun _ i wy => ∃ j : Nat, j ≤ n ∧ i = .int .i64 j ∧ Hid (HoldsU wy G (mixL FF n k j)) ∧ Hid (Below w.heap.size w wy)) (fun _ i _ => n - (intOf i).toNat)
              case atStart => exact ⟨0, Nat.zero_le _, rfl, HU, HBk⟩
              case round =>
                obtain ⟨j, hj, rfl, HUj, HBj⟩ := hrel
                by_cases hlt2 : j < n
                · obtain ⟨aj, rfl, haj, hcj⟩ := (HRJ.out.below HBj.out).word_k (k := j) hlt2
                  have hcu := HUj.out.cell j (by rw [mixL_len]; exact hlt2)
                  rw [mixL_get hlt2] at hcu
                  have HSET := Lib.hid (fun (x : Nat) h => mixL_set (F := FF) (k := k) hlt2 (x := x) h)
                  have HNX := Lib.hid (HSET.out _ (HH.out j).symm)
                  have HII := Lib.hid (pMeetOp_any (FF k j) ((rel.getD k []).getD j 0) wr.drew (HFL2.out k j) (HRX.out k j))
                  clear HSET
                  have hfu := HUj.out.free j
                  have hcu2 : wr.drew.cell? ⟨G, j, none⟩ = _ := hcu
                  have hfu2 : wr.drew.frozen? ⟨G, j, none⟩ = false := hfu
                  have hcj2 : wr.drew.cell? (aj.add j) = _ := hcj
                  have HUd : Hid (HoldsU wr.drew G (mixL FF n k j)) := HUj
                  have HBd := Lib.hid HBj.out.drew
                  generalize (rel.getD k []).getD j 0 = z at *
                  generalize FF k j = x at *
                  go_wp2
                  refine wp_region_still_tail 13 (by kernel_rfl) (by kernel_rfl) ?_
                  simp only [List.take_succ_cons, List.take_zero, List.drop_succ_cons, List.drop_zero]
                  repeat still_step
                  still_call HII.out
                  repeat still_step
                  try refine wpStill_nil ?_
                  change wpList _ _ _ _ _ wr.drew
                  clear hcu hfu hcj HII hcu2 hfu2 hcj2 HUj HBj
                  have hcu := HUd.out.cell j (by rw [mixL_len]; exact hlt2)
                  have hfu := HUd.out.free j
                  generalize wr.drew = w6 at *
                  go_wp2
                  go_roundw
                  case rel => exact ⟨j + 1, by omega, by go_num, Lib.hid (by have h9 := HUd.out.put j (x &&& z); rw [HNX.out] at h9; exact h9), Lib.hid (HBd.out.trans ((OnlyB.set G j w6 _).below (Nat.le_of_lt HG0.out) HBd.out.size))⟩
                  case measure => first | (simp [intOf]; done) | (simp [intOf]; omega)
                · obtain rfl : n = j := by omega
                  have HUf := HUj
                  rw [mixL_full, ← mixL_zero] at HUf
                  clear hlt2 HUj
                  go_wp2
                  go_roundw
                  case rel => exact ⟨k + 1, by omega, by go_num, HUf, HBj⟩
                  case measure => first | (simp [intOf]; done) | (simp [intOf]; omega)
            · have hbit2 : g.testBit k = false := by simpa using hbit
              rw [if_neg hbit] at hba
              have HUf : Hid (HoldsU wr G (mixL FF n (k + 1) 0)) := Lib.hid (by
                have e : mixL FF n (k + 1) 0 = mixL FF n k 0 := by
                  rw [mixL_zero, mixL_zero]
                  exact List.map_congr_left (fun x _ => HMISS.out k x hbit2)
                rw [e]; exact HU.out)
              clear hbit hbit2
              go_wp2
              go_roundw
              case rel => exact ⟨k + 1, by omega, by go_num, HUf, HBk⟩
              case measure => first | (simp [intOf]; done) | (simp [intOf]; omega)
          · obtain rfl : q = k := by omega
            clear hlt
            go_wp2
            go_ret
            have h9 := HU.out.reads
            rw [mixL_zero, ← HV2.out] at h9
            have h8 : res.length = n := by rw [HV2.out]; simp
            rw [h8] at h9 ⊢
            exact ⟨_, _, rfl, h9, HBk.out⟩
  · have hne : (chkM m != 0) = true := by rw [bne_iff_ne]; exact hz
    have HV := Lib.hid (HE.out (by unfold isG; rw [decide_eq_false hz]; rfl))
    generalize meetL m gi = res at *
    generalize chkM m = ce at *
    clear hz
    go_enter Tryd.func48, Tryd.ntmps48
    go_wp2_with fail
    refine (HC.out _ HBe.out).mono ?_
    rintro e w2 ⟨rfl, hb2⟩
    have HB2 := Lib.hid (HBe.out.trans (hb2.mono HBe.out.size))
    clear hb2
    go_wp2
    go_ret
    rw [HV.out]
    exact ⟨none, 0, rfl, (by unfold us; exact Reads.none_), HB2.out⟩
set_option maxHeartbeats 4000000 in
theorem pGroup_any (m : Mo) (v : Value) (gi : Int) (w : World) (hM : MoR w w.heap.size v m) (hgi : -9223372036854775808 ≤ gi ∧ gi < 9223372036854775808) :
    Calls Tryd.prog 28 #[v, .int .i64 gi] w fun e w' => ∃ A c, e = .returned (.slice A (groupL m gi).length c) ∧ Reads w' w'.heap.size 1 A (groupL m gi).length (us (groupL m gi)) ∧ Below w.heap.size w w' := by
  obtain ⟨A1, c1, A2, c2, rfl, hv, hr⟩ := hM.ex
  have HBe : Hid (Below w.heap.size w (w.alloc (.cells #[.int .i64 m.n, .slice A1 m.val.length c1, .slice A2 m.rel.length c2] 25))) := Lib.hid ((Below.refl _ w).alloc (Nat.le_refl _) _)
  have HC := Lib.hid (pGroupComb_any m (.agg #[.int .i64 m.n, .slice A1 m.val.length c1, .slice A2 m.rel.length c2]) gi _ (hM.below HBe.out HBe.out.size) hgi)
  clear hM hv hr
  generalize groupL m gi = res at *
  go_enter Tryd.func28, Tryd.ntmps28
  go_wp2_with fail
  refine (HC.out).mono ?_
  rintro e w2 ⟨A, c, rfl, hR, hb2⟩
  have HB2 := Lib.hid (HBe.out.trans (hb2.mono HBe.out.size))
  have HRR := Lib.hid hR
  clear hb2 hR
  go_wp2
  go_ret
  exact ⟨_, _, rfl, HRR.out, HB2.out⟩
set_option maxHeartbeats 4000000 in
theorem pMeet_any (m : Mo) (v : Value) (gi : Int) (w : World) (hM : MoR w w.heap.size v m) (hgi : -9223372036854775808 ≤ gi ∧ gi < 9223372036854775808) :
    Calls Tryd.prog 30 #[v, .int .i64 gi] w fun e w' => ∃ A c, e = .returned (.slice A (meetL m gi).length c) ∧ Reads w' w'.heap.size 1 A (meetL m gi).length (us (meetL m gi)) ∧ Below w.heap.size w w' := by
  obtain ⟨A1, c1, A2, c2, rfl, hv, hr⟩ := hM.ex
  have HBe : Hid (Below w.heap.size w (w.alloc (.cells #[.int .i64 m.n, .slice A1 m.val.length c1, .slice A2 m.rel.length c2] 25))) := Lib.hid ((Below.refl _ w).alloc (Nat.le_refl _) _)
  have HC := Lib.hid (pMeetComb_any m (.agg #[.int .i64 m.n, .slice A1 m.val.length c1, .slice A2 m.rel.length c2]) gi _ (hM.below HBe.out HBe.out.size) hgi)
  clear hM hv hr
  generalize meetL m gi = res at *
  go_enter Tryd.func30, Tryd.ntmps30
  go_wp2_with fail
  refine (HC.out).mono ?_
  rintro e w2 ⟨A, c, rfl, hR, hb2⟩
  have HB2 := Lib.hid (HBe.out.trans (hb2.mono HBe.out.size))
  have HRR := Lib.hid hR
  clear hb2 hR
  go_wp2
  go_ret
  exact ⟨_, _, rfl, HRR.out, HB2.out⟩
end Go.Proofs.YtofclgapgjcflaaDoor
