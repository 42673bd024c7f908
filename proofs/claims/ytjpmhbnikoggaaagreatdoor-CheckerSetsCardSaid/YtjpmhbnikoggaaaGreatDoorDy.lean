/- Layer 13: the relations of a group, by the reference. -/
import Derived.Test.YtjpmhbnikoggaaaGreatDoorNJf
import Derived.Test.YtjpmhbnikoggaaaGreatDoorNKb
namespace Go.Proofs.YtjpmhbnikoggaaaGreatDoor
open Go.RowKit Go.Proofs.Ws
set_option maxRecDepth 100000
theorem us_appC (l : List Nat) (x : Nat) : us (l ++ [x]) = us l ++ [.int .u64 (x : Int)] := by unfold us; simp
theorem rem_bit (g k : Nat) : ((((g : Int) / 2 ^ k).tmod 2) == 1) = g.testBit k := by
  rw [Nat.testBit_eq_decide_div_mod_eq, show ((g : Int) / 2 ^ k) = ((g / 2 ^ k : Nat) : Int) by simp, Int.tmod_eq_emod_of_nonneg (Int.natCast_nonneg _)]
  rw [Bool.eq_iff_iff]
  generalize g / 2 ^ k = z
  simp
  omega
set_option maxHeartbeats 8000000 in
theorem rGroupComb_any (m : Mo) (v : Value) (gi : Int) (w : World) (hM : MoR w w.heap.size v m) (hgi : -9223372036854775808 ≤ gi ∧ gi < 9223372036854775808) :
    Calls Tryz.prog 167 #[v, .int .i64 gi, .bool false] w fun e w' => ∃ A c, e = .returned (.slice A (groupL m gi).length c) ∧ Reads w' w'.heap.size 1 A (groupL m gi).length (us (groupL m gi)) ∧ Below w.heap.size w w' := by
  obtain ⟨A1, c1, A2, c2, rfl, hv, hr⟩ := hM.ex
  have HB := Lib.hid (MBox.made w m.n (.slice A1 m.val.length c1) (.slice A2 m.rel.length c2))
  have HBe : Hid (Below w.heap.size w (w.alloc (.cells #[.int .i64 m.n, .slice A1 m.val.length c1, .slice A2 m.rel.length c2] 25))) := Lib.hid ((Below.refl _ w).alloc (Nat.le_refl _) _)
  have HC := Lib.hid (fun W (hb : Below w.heap.size w W) => rCheck_any m (.agg #[.int .i64 m.n, .slice A1 m.val.length c1, .slice A2 m.rel.length c2]) W (hM.below hb hb.size))
  have HR := Lib.hid hr
  have HMM := Lib.hid hM
  have HE : Hid (isG m gi = false → groupL m gi = []) := Lib.hid (fun h => by unfold groupL; rw [h]; rfl)
  have HS : Hid (isG m gi = true → groupL m gi = (List.range m.n.toNat).map (fun x => gorK m.rel gi.toNat x m.rel.length)) := Lib.hid (fun h => by unfold groupL; rw [h]; rfl)
  clear hM hv hr
  by_cases hz : chkM m = 0
  · have ok := chkM_ok hz
    have hq4 := ok.agents
    rw [hz] at HC
    have hpl : (2 : Nat) ^ m.rel.length ≤ 2 ^ 4 := Nat.pow_le_pow_right (by decide) hq4
    have hpw : wrap64 (2 ^ m.rel.length) = ((2 ^ m.rel.length : Nat) : Int) := by
      have e : ((2 : Int) ^ m.rel.length) = ((2 ^ m.rel.length : Nat) : Int) := by simp
      rw [e]; generalize (2 : Nat) ^ m.rel.length = z at *; unfold wrap64; omega
    by_cases h1 : gi < 1
    · have d1 : decide (gi < 1) = true := decide_eq_true h1
      have HV := Lib.hid (HE.out (by unfold isG; rw [show decide (1 ≤ gi) = false from decide_eq_false (by omega)]; simp))
      generalize groupL m gi = res at *
      clear ok hz hpw hpl
      go_enter Tryz.func167, Tryz.ntmps167
      go_wp2_with fail
      refine (HC.out _ HBe.out).mono ?_
      rintro e w2 ⟨rfl, hb2⟩
      have HB2 := Lib.hid (HBe.out.trans (hb2.mono HBe.out.size))
      clear hb2
      go_wp2
      go_ret
      rw [HV.out]
      exact ⟨none, 0, rfl, (by unfold us; exact Reads.none_), HB2.out⟩
    · by_cases h2 : (2 : Int) ^ m.rel.length ≤ gi
      · have d1 : decide (gi < 1) = false := decide_eq_false h1
        have d2 : decide (((2 ^ m.rel.length : Nat) : Int) ≤ gi) = true := decide_eq_true (by simpa using h2)
        have HV := Lib.hid (HE.out (by unfold isG; rw [show decide (gi < 2 ^ m.rel.length) = false from decide_eq_false (by omega)]; simp))
        generalize groupL m gi = res at *
        generalize (2 : Nat) ^ m.rel.length = p2q at *
        clear ok hz hpl
        go_enter Tryz.func167, Tryz.ntmps167
        go_wp2_with fail
        refine (HC.out _ HBe.out).mono ?_
        rintro e w2 ⟨rfl, hb2⟩
        have HB2 := Lib.hid (HBe.out.trans (hb2.mono HBe.out.size))
        have HX := Lib.hid (HB.out.below hb2 HB.out.lt)
        clear hb2
        have b2 := HX.out.c2
        go_wp2
        go_ret
        rw [HV.out]
        exact ⟨none, 0, rfl, (by unfold us; exact Reads.none_), HB2.out⟩
      · have d1 : decide (gi < 1) = false := decide_eq_false h1
        have d2 : decide (((2 ^ m.rel.length : Nat) : Int) ≤ gi) = false := decide_eq_false (by simpa using h2)
        have HV := Lib.hid (HS.out (by unfold isG; rw [decide_eq_true hz, decide_eq_true (show 1 ≤ gi by omega), decide_eq_true (show gi < 2 ^ m.rel.length by omega)]; rfl))
        obtain ⟨g, rfl⟩ : ∃ g : Nat, gi = (g : Int) := ⟨gi.toNat, by omega⟩
        rw [show ((g : Nat) : Int).toNat = g from rfl] at HV
        have hgl : g < 2 ^ m.rel.length := by
          rw [decide_eq_false_iff_not] at d2
          exact Nat.lt_of_not_le (fun h => d2 (Int.ofNat_le.2 h))
        have hg0 : 0 < g := by omega
        have d3 : decide (2 ^ m.rel.length ≤ g) = false := decide_eq_false (by omega)
        clear d2
        have HNUM := Lib.hid ok.num
        have hle := ok.le
        have HRX := Lib.hid (fun k x => Nat.lt_of_lt_of_le (relW_lt ok.rel k x) (show 2 ^ m.n.toNat ≤ 18446744073709551616 from Nat.pow_le_pow_right (show 0 < 2 by decide) ok.le))
        have HRL := Lib.hid (fun k (h : k < m.rel.length) => ok.len (m.rel.getD k []) (getD_mem' h))
        obtain ⟨FF, hFF⟩ : ∃ FF : Nat → Nat → Nat, FF = fun k x => gorK m.rel g x k := ⟨_, rfl⟩
        have HHIT : Hid (∀ k x, g.testBit k = true → FF (k + 1) x = FF k x ||| (m.rel.getD k []).getD x 0) := Lib.hid (fun k x h => by rw [hFF]; show gorK m.rel g x (k + 1) = _; rw [gorK, if_pos h])
        have HMISS : Hid (∀ k x, g.testBit k = false → FF (k + 1) x = FF k x) := Lib.hid (fun k x h => by rw [hFF]; show gorK m.rel g x (k + 1) = _; rw [gorK, h]; rfl)
        have HFL : Hid (∀ k x, FF k x < 18446744073709551616) := Lib.hid (fun k x => by rw [hFF]; exact gorK_lt64 HRX.out k x)
        have HF0 : Hid (∀ x, FF 0 x = 0) := Lib.hid (fun x => by rw [hFF]; rfl)
        have HV2 : Hid (groupL m (g : Int) = (List.range m.n.toNat).map (FF m.rel.length)) := Lib.hid (by
          rw [HV.out, hFF]
          first | done | rfl)
        clear hFF HV
        skip
        generalize hres : groupL m (g : Int) = res at *
        have HRES := Lib.hid hres
        clear hres HE HS
        generalize hn : m.n.toNat = n at *
        have hmn : m.n = (n : Int) := by rw [HNUM.out]
        rw [hmn] at HB HBe HC HMM
        rw [hmn]
        clear ok hz hpl hn hmn HNUM hg0 hgl
        generalize (2 : Nat) ^ m.rel.length = p2q at *
        generalize hrel : m.rel = rel at *
        have HREL := Lib.hid hrel
        clear hrel
        generalize hq : rel.length = q at *
        have HQ := Lib.hid hq
        clear hq
        skip
        skip
        skip
        obtain ⟨i0, hi, hz0, hz1, hz2⟩ := info_parts Tryz.infoU
        go_enter Tryz.func167, Tryz.ntmps167
        go_wp2_with fail
        refine (HC.out _ HBe.out).mono ?_
        rintro e w2 ⟨rfl, hb2⟩
        have HB2 := Lib.hid (HBe.out.trans (hb2.mono HBe.out.size))
        have HX := Lib.hid (HB.out.below hb2 HB.out.lt)
        have hX2 := HX.out.lt
        clear hb2
        have b2 := HX.out.c2
        go_wp2
        clear b2 hpw
        go_loopw [7, 8, 9, 10] (fun u7 u8 _ _ wr => ∃ (x : Nat) (vv : Value), x ≤ n ∧ u8 = .int .i64 x ∧ vv = u7 ∧ wr.ownsRow w2.heap.size 37 1 vv x (us ((List.range x).map (FF q))) ∧ Below w2.heap.size w2 wr) (fun _ u8 _ _ _ => n - (intOf u8).toNat)
        case atStart => exact ⟨0, .slice none 0 0, Nat.zero_le _, rfl, rfl, World.ownsRow_nil _ _ _ _, Below.refl _ _⟩
        case round =>
          obtain ⟨x, vv, hx, rfl, rfl, hown, hb⟩ := hrel
          have HOW := Lib.hid hown
          have HBW := Lib.hid hb
          have HXr := Lib.hid (HX.out.below hb hX2)
          have HBr := Lib.hid (HB2.out.trans (hb.mono HB2.out.size))
          have b0 := HXr.out.c0
          have b2 := HXr.out.c2
          clear hown hb
          by_cases hlt : x < n
          · have HJ : Hid (us ((List.range (x + 1)).map (FF q)) = us ((List.range x).map (FF q)) ++ [.int .u64 ((FF q x : Nat) : Int)]) := Lib.hid (by rw [List.range_succ, List.map_append]; exact us_appC _ _)
            have HF0x := Lib.hid (HF0.out x)
            generalize wr = w5 at *
            go_wp2
            go_loopw [9, 10] (fun u9 u10 wr => ∃ a : Nat, a ≤ q ∧ u10 = .int .i64 a ∧ u9 = .int .u64 ((FF a x : Nat) : Int) ∧ w5 = wr) (fun _ u10 _ => q - (intOf u10).toNat)
            case atStart => exact ⟨0, Nat.zero_le _, rfl, by (rw [HF0x.out]; try rfl), by first | rfl | trivial⟩
            case round =>
              obtain ⟨a, ha, rfl, rfl, rfl⟩ := hrel
              by_cases hlt2 : a < q
              · obtain ⟨ad, Aj, cj, rfl, hbb, hc0, hrj, hlj⟩ := HR.out.at_ hlt2
                have hc := (HBr.out.cell (p := ad.add a) (by rw [block_of_add]; exact hbb)).trans hc0
                have hlen := HRL.out a hlt2
                rw [hlen] at hc hrj
                obtain ⟨aj, rfl, haj, hcj⟩ := (hrj.below HBr.out).word_k (k := x) hlt
                have hba := rem_bit g a
                clear hc0 hlen hrj hlj
                by_cases hbit : g.testBit a = true
                · rw [hbit] at hba
                  have HH := Lib.hid (HHIT.out a x hbit)
                  have hoo := u64_or_nat (FF a x) ((rel.getD a []).getD x 0) (HFL.out a x) (HRX.out a x)
                  clear hbit
                  generalize (rel.getD a []).getD x 0 = z at *
                  generalize FF a x = y at *
                  go_wp2
                  go_roundw
                  case rel => exact ⟨a + 1, by omega, by go_num, by rw [HH.out], by first | rfl | trivial⟩
                  case measure => first | (simp [intOf]; done) | (simp [intOf]; omega)
                · have hbit2 : g.testBit a = false := by simpa using hbit
                  rw [hbit2] at hba
                  have HH := Lib.hid (HMISS.out a x hbit2)
                  clear hbit hbit2
                  go_wp2
                  go_roundw
                  case rel => exact ⟨a + 1, by omega, by go_num, by rw [HH.out], by first | rfl | trivial⟩
                  case measure => first | (simp [intOf]; done) | (simp [intOf]; omega)
              · obtain rfl : q = a := by omega
                clear hlt2
                have hown := HOW.out
                have hsz := HBW.out.size
                generalize FF q x = y at *
                go_wp2_with (at_builtin; refine wpList_append_own _ rfl _ _ 22 rfl w2.heap.size 37 i0 (.int .u64 0) 1 8 Tryz.underlying22 hi hz0 hz1 hz2 rfl (by decide) _ _ _ rfl (hown.alloc _) ⟨w5.heap.size, 0, none⟩ 1 1 [.int .u64 (y : Int)] rfl rfl ?c1 ?c2 ?c3 ?c4 ?c5 ?_)
                case c1 =>
                  intro j u hj
                  match j, hj with
                  | 0, hj => simp at hj; subst hj; simp [Addr.add]
                case c2 => intro u hu; simp at hu; subst hu; rfl
                case c3 => unfold maxLen; omega
                case c4 => omega
                case c5 => simp; omega
                · intro v' w6 hown' hgrow _
                  have hb1 : Below w2.heap.size w2 w6 := (HBW.out.alloc hsz _).grown hgrow (by simp; omega) (fun j hj => by have := (hown.lt j hj).1; omega)
                  have HO6 := Lib.hid hown'
                  have HB6 := Lib.hid hb1
                  clear hgrow hown hown' hb1
                  go_wp2
                  go_roundw
                  case rel => exact ⟨x + 1, v', by omega, by go_num, rfl, by rw [HJ.out]; exact HO6.out, HB6.out⟩
                  case measure => first | (simp [intOf]; done) | (simp [intOf]; omega)
          · obtain rfl : n = x := by omega
            obtain ⟨Av, cv, rfl⟩ := own_slK HOW.out
            clear hlt
            go_wp2
            go_ret
            have h9 := Reads.of_own HOW.out
            rw [← HV2.out] at h9
            have h8 : res.length = n := by rw [HV2.out]; simp
            rw [h8]
            exact ⟨_, _, rfl, h9, HBr.out⟩
  · have hne : (chkM m != 0) = true := by rw [bne_iff_ne]; exact hz
    have HV := Lib.hid (HE.out (by unfold isG; rw [decide_eq_false hz]; rfl))
    generalize groupL m gi = res at *
    generalize chkM m = ce at *
    clear hz
    go_enter Tryz.func167, Tryz.ntmps167
    go_wp2_with fail
    refine (HC.out _ HBe.out).mono ?_
    rintro e w2 ⟨rfl, hb2⟩
    have HB2 := Lib.hid (HBe.out.trans (hb2.mono HBe.out.size))
    clear hb2
    go_wp2
    go_ret
    rw [HV.out]
    exact ⟨none, 0, rfl, (by unfold us; exact Reads.none_), HB2.out⟩
set_option maxHeartbeats 4000000 in
theorem rGroup_any (m : Mo) (v : Value) (gi : Int) (w : World) (hM : MoR w w.heap.size v m) (hgi : -9223372036854775808 ≤ gi ∧ gi < 9223372036854775808) :
    Calls Tryz.prog 122 #[v, .int .i64 gi] w fun e w' => ∃ A c, e = .returned (.slice A (groupL m gi).length c) ∧ Reads w' w'.heap.size 1 A (groupL m gi).length (us (groupL m gi)) ∧ Below w.heap.size w w' := by
  obtain ⟨A1, c1, A2, c2, rfl, hv, hr⟩ := hM.ex
  have HBe : Hid (Below w.heap.size w (w.alloc (.cells #[.int .i64 m.n, .slice A1 m.val.length c1, .slice A2 m.rel.length c2] 25))) := Lib.hid ((Below.refl _ w).alloc (Nat.le_refl _) _)
  have HC := Lib.hid (rGroupComb_any m (.agg #[.int .i64 m.n, .slice A1 m.val.length c1, .slice A2 m.rel.length c2]) gi _ (hM.below HBe.out HBe.out.size) hgi)
  clear hM hv hr
  generalize groupL m gi = res at *
  go_enter Tryz.func122, Tryz.ntmps122
  go_wp2_with fail
  refine (HC.out).mono ?_
  rintro e w2 ⟨A, c, rfl, hR, hb2⟩
  have HB2 := Lib.hid (HBe.out.trans (hb2.mono HBe.out.size))
  have HRR := Lib.hid hR
  clear hb2 hR
  go_wp2
  go_ret
  exact ⟨_, _, rfl, HRR.out, HB2.out⟩
set_option maxHeartbeats 8000000 in
theorem rMeetComb_any (m : Mo) (v : Value) (gi : Int) (w : World) (hM : MoR w w.heap.size v m) (hgi : -9223372036854775808 ≤ gi ∧ gi < 9223372036854775808) :
    Calls Tryz.prog 167 #[v, .int .i64 gi, .bool true] w fun e w' => ∃ A c, e = .returned (.slice A (meetL m gi).length c) ∧ Reads w' w'.heap.size 1 A (meetL m gi).length (us (meetL m gi)) ∧ Below w.heap.size w w' := by
  obtain ⟨A1, c1, A2, c2, rfl, hv, hr⟩ := hM.ex
  have HB := Lib.hid (MBox.made w m.n (.slice A1 m.val.length c1) (.slice A2 m.rel.length c2))
  have HBe : Hid (Below w.heap.size w (w.alloc (.cells #[.int .i64 m.n, .slice A1 m.val.length c1, .slice A2 m.rel.length c2] 25))) := Lib.hid ((Below.refl _ w).alloc (Nat.le_refl _) _)
  have HC := Lib.hid (fun W (hb : Below w.heap.size w W) => rCheck_any m (.agg #[.int .i64 m.n, .slice A1 m.val.length c1, .slice A2 m.rel.length c2]) W (hM.below hb hb.size))
  have HR := Lib.hid hr
  have HMM := Lib.hid hM
  have HE : Hid (isG m gi = false → meetL m gi = []) := Lib.hid (fun h => by unfold meetL; rw [h]; rfl)
  have HS : Hid (isG m gi = true → meetL m gi = (List.range m.n.toNat).map (fun x => gandK 18446744073709551615 m.rel gi.toNat x m.rel.length)) := Lib.hid (fun h => by unfold meetL; rw [h]; rfl)
  clear hM hv hr
  by_cases hz : chkM m = 0
  · have ok := chkM_ok hz
    have hq4 := ok.agents
    rw [hz] at HC
    have hpl : (2 : Nat) ^ m.rel.length ≤ 2 ^ 4 := Nat.pow_le_pow_right (by decide) hq4
    have hpw : wrap64 (2 ^ m.rel.length) = ((2 ^ m.rel.length : Nat) : Int) := by
      have e : ((2 : Int) ^ m.rel.length) = ((2 ^ m.rel.length : Nat) : Int) := by simp
      rw [e]; generalize (2 : Nat) ^ m.rel.length = z at *; unfold wrap64; omega
    by_cases h1 : gi < 1
    · have d1 : decide (gi < 1) = true := decide_eq_true h1
      have HV := Lib.hid (HE.out (by unfold isG; rw [show decide (1 ≤ gi) = false from decide_eq_false (by omega)]; simp))
      generalize meetL m gi = res at *
      clear ok hz hpw hpl
      go_enter Tryz.func167, Tryz.ntmps167
      go_wp2_with fail
      refine (HC.out _ HBe.out).mono ?_
      rintro e w2 ⟨rfl, hb2⟩
      have HB2 := Lib.hid (HBe.out.trans (hb2.mono HBe.out.size))
      clear hb2
      go_wp2
      go_ret
      rw [HV.out]
      exact ⟨none, 0, rfl, (by unfold us; exact Reads.none_), HB2.out⟩
    · by_cases h2 : (2 : Int) ^ m.rel.length ≤ gi
      · have d1 : decide (gi < 1) = false := decide_eq_false h1
        have d2 : decide (((2 ^ m.rel.length : Nat) : Int) ≤ gi) = true := decide_eq_true (by simpa using h2)
        have HV := Lib.hid (HE.out (by unfold isG; rw [show decide (gi < 2 ^ m.rel.length) = false from decide_eq_false (by omega)]; simp))
        generalize meetL m gi = res at *
        generalize (2 : Nat) ^ m.rel.length = p2q at *
        clear ok hz hpl
        go_enter Tryz.func167, Tryz.ntmps167
        go_wp2_with fail
        refine (HC.out _ HBe.out).mono ?_
        rintro e w2 ⟨rfl, hb2⟩
        have HB2 := Lib.hid (HBe.out.trans (hb2.mono HBe.out.size))
        have HX := Lib.hid (HB.out.below hb2 HB.out.lt)
        clear hb2
        have b2 := HX.out.c2
        go_wp2
        go_ret
        rw [HV.out]
        exact ⟨none, 0, rfl, (by unfold us; exact Reads.none_), HB2.out⟩
      · have d1 : decide (gi < 1) = false := decide_eq_false h1
        have d2 : decide (((2 ^ m.rel.length : Nat) : Int) ≤ gi) = false := decide_eq_false (by simpa using h2)
        have HV := Lib.hid (HS.out (by unfold isG; rw [decide_eq_true hz, decide_eq_true (show 1 ≤ gi by omega), decide_eq_true (show gi < 2 ^ m.rel.length by omega)]; rfl))
        obtain ⟨g, rfl⟩ : ∃ g : Nat, gi = (g : Int) := ⟨gi.toNat, by omega⟩
        rw [show ((g : Nat) : Int).toNat = g from rfl] at HV
        have hgl : g < 2 ^ m.rel.length := by
          rw [decide_eq_false_iff_not] at d2
          exact Nat.lt_of_not_le (fun h => d2 (Int.ofNat_le.2 h))
        have hg0 : 0 < g := by omega
        have d3 : decide (2 ^ m.rel.length ≤ g) = false := decide_eq_false (by omega)
        clear d2
        have HNUM := Lib.hid ok.num
        have hle := ok.le
        have HRX := Lib.hid (fun k x => Nat.lt_of_lt_of_le (relW_lt ok.rel k x) (show 2 ^ m.n.toNat ≤ 18446744073709551616 from Nat.pow_le_pow_right (show 0 < 2 by decide) ok.le))
        have HRL := Lib.hid (fun k (h : k < m.rel.length) => ok.len (m.rel.getD k []) (getD_mem' h))
        obtain ⟨FF, hFF⟩ : ∃ FF : Nat → Nat → Nat, FF = fun k x => gandK (2 ^ m.n.toNat - 1) m.rel g x k := ⟨_, rfl⟩
        have HHIT : Hid (∀ k x, g.testBit k = true → FF (k + 1) x = FF k x &&& (m.rel.getD k []).getD x 0) := Lib.hid (fun k x h => by rw [hFF]; show gandK (2 ^ m.n.toNat - 1) m.rel g x (k + 1) = _; rw [gandK, if_pos h])
        have HMISS : Hid (∀ k x, g.testBit k = false → FF (k + 1) x = FF k x) := Lib.hid (fun k x h => by rw [hFF]; show gandK (2 ^ m.n.toNat - 1) m.rel g x (k + 1) = _; rw [gandK, h]; rfl)
        have HFL : Hid (∀ k x, FF k x < 18446744073709551616) := Lib.hid (fun k x => by rw [hFF]; exact (by have h := gandK_le (2 ^ m.n.toNat - 1) m.rel g x k; have h2 := Nat.pow_le_pow_right (show 0 < 2 by decide) hle; show gandK (2 ^ m.n.toNat - 1) m.rel g x k < _; omega))
        have HF0 : Hid (∀ x, FF 0 x = 2 ^ m.n.toNat - 1) := Lib.hid (fun x => by rw [hFF]; rfl)
        have HV2 : Hid (meetL m (g : Int) = (List.range m.n.toNat).map (FF m.rel.length)) := Lib.hid (by
          rw [HV.out, hFF]
          exact List.map_congr_left (fun x _ => (gandK_full hle ok.rel hg0 hgl).symm))
        clear hFF HV
        have HAL := Lib.hid (fun W => rAll_any m.n.toNat W hle)
        generalize hres : meetL m (g : Int) = res at *
        have HRES := Lib.hid hres
        clear hres HE HS
        generalize hn : m.n.toNat = n at *
        have hmn : m.n = (n : Int) := by rw [HNUM.out]
        rw [hmn] at HB HBe HC HMM
        rw [hmn]
        clear ok hz hpl hn hmn HNUM hg0 hgl
        generalize (2 : Nat) ^ m.rel.length = p2q at *
        generalize hrel : m.rel = rel at *
        have HREL := Lib.hid hrel
        clear hrel
        generalize hq : rel.length = q at *
        have HQ := Lib.hid hq
        clear hq
        obtain ⟨al, hal⟩ : ∃ al, al = 2 ^ n - 1 := ⟨_, rfl⟩
        rw [← hal] at HAL HF0
        clear hal
        obtain ⟨i0, hi, hz0, hz1, hz2⟩ := info_parts Tryz.infoU
        go_enter Tryz.func167, Tryz.ntmps167
        go_wp2_with fail
        refine (HC.out _ HBe.out).mono ?_
        rintro e w2 ⟨rfl, hb2⟩
        have HB2 := Lib.hid (HBe.out.trans (hb2.mono HBe.out.size))
        have HX := Lib.hid (HB.out.below hb2 HB.out.lt)
        have hX2 := HX.out.lt
        clear hb2
        have b2 := HX.out.c2
        go_wp2
        clear b2 hpw
        go_loopw [7, 8, 9, 10] (fun u7 u8 _ _ wr => ∃ (x : Nat) (vv : Value), x ≤ n ∧ u8 = .int .i64 x ∧ vv = u7 ∧ wr.ownsRow w2.heap.size 37 1 vv x (us ((List.range x).map (FF q))) ∧ Below w2.heap.size w2 wr) (fun _ u8 _ _ _ => n - (intOf u8).toNat)
        case atStart => exact ⟨0, .slice none 0 0, Nat.zero_le _, rfl, rfl, World.ownsRow_nil _ _ _ _, Below.refl _ _⟩
        case round =>
          obtain ⟨x, vv, hx, rfl, rfl, hown, hb⟩ := hrel
          have HOW := Lib.hid hown
          have HBW := Lib.hid hb
          have HXr := Lib.hid (HX.out.below hb hX2)
          have HBr := Lib.hid (HB2.out.trans (hb.mono HB2.out.size))
          have b0 := HXr.out.c0
          have b2 := HXr.out.c2
          clear hown hb
          by_cases hlt : x < n
          · have HJ : Hid (us ((List.range (x + 1)).map (FF q)) = us ((List.range x).map (FF q)) ++ [.int .u64 ((FF q x : Nat) : Int)]) := Lib.hid (by rw [List.range_succ, List.map_append]; exact us_appC _ _)
            have HF0x := Lib.hid (HF0.out x)
            generalize wr = w5 at *
            go_wp2_with fail
            refine (HAL.out _).mono ?_
            rintro e w6 ⟨rfl, rfl⟩
            go_wp2
            go_loopw [9, 10] (fun u9 u10 wr => ∃ a : Nat, a ≤ q ∧ u10 = .int .i64 a ∧ u9 = .int .u64 ((FF a x : Nat) : Int) ∧ w5 = wr) (fun _ u10 _ => q - (intOf u10).toNat)
            case atStart => exact ⟨0, Nat.zero_le _, rfl, by (rw [HF0x.out]; try rfl), by first | rfl | trivial⟩
            case round =>
              obtain ⟨a, ha, rfl, rfl, rfl⟩ := hrel
              by_cases hlt2 : a < q
              · obtain ⟨ad, Aj, cj, rfl, hbb, hc0, hrj, hlj⟩ := HR.out.at_ hlt2
                have hc := (HBr.out.cell (p := ad.add a) (by rw [block_of_add]; exact hbb)).trans hc0
                have hlen := HRL.out a hlt2
                rw [hlen] at hc hrj
                obtain ⟨aj, rfl, haj, hcj⟩ := (hrj.below HBr.out).word_k (k := x) hlt
                have hba := rem_bit g a
                clear hc0 hlen hrj hlj
                by_cases hbit : g.testBit a = true
                · rw [hbit] at hba
                  have HH := Lib.hid (HHIT.out a x hbit)
                  have hoo := u64_and_nat (FF a x) ((rel.getD a []).getD x 0) (HFL.out a x) (HRX.out a x)
                  clear hbit
                  generalize (rel.getD a []).getD x 0 = z at *
                  generalize FF a x = y at *
                  go_wp2
                  go_roundw
                  case rel => exact ⟨a + 1, by omega, by go_num, by rw [HH.out], by first | rfl | trivial⟩
                  case measure => first | (simp [intOf]; done) | (simp [intOf]; omega)
                · have hbit2 : g.testBit a = false := by simpa using hbit
                  rw [hbit2] at hba
                  have HH := Lib.hid (HMISS.out a x hbit2)
                  clear hbit hbit2
                  go_wp2
                  go_roundw
                  case rel => exact ⟨a + 1, by omega, by go_num, by rw [HH.out], by first | rfl | trivial⟩
                  case measure => first | (simp [intOf]; done) | (simp [intOf]; omega)
              · obtain rfl : q = a := by omega
                clear hlt2
                have hown := HOW.out
                have hsz := HBW.out.size
                generalize FF q x = y at *
                go_wp2_with (at_builtin; refine wpList_append_own _ rfl _ _ 22 rfl w2.heap.size 37 i0 (.int .u64 0) 1 8 Tryz.underlying22 hi hz0 hz1 hz2 rfl (by decide) _ _ _ rfl (hown.alloc _) ⟨w5.heap.size, 0, none⟩ 1 1 [.int .u64 (y : Int)] rfl rfl ?c1 ?c2 ?c3 ?c4 ?c5 ?_)
                case c1 =>
                  intro j u hj
                  match j, hj with
                  | 0, hj => simp at hj; subst hj; simp [Addr.add]
                case c2 => intro u hu; simp at hu; subst hu; rfl
                case c3 => unfold maxLen; omega
                case c4 => omega
                case c5 => simp; omega
                · intro v' w6 hown' hgrow _
                  have hb1 : Below w2.heap.size w2 w6 := (HBW.out.alloc hsz _).grown hgrow (by simp; omega) (fun j hj => by have := (hown.lt j hj).1; omega)
                  have HO6 := Lib.hid hown'
                  have HB6 := Lib.hid hb1
                  clear hgrow hown hown' hb1
                  go_wp2
                  go_roundw
                  case rel => exact ⟨x + 1, v', by omega, by go_num, rfl, by rw [HJ.out]; exact HO6.out, HB6.out⟩
                  case measure => first | (simp [intOf]; done) | (simp [intOf]; omega)
          · obtain rfl : n = x := by omega
            obtain ⟨Av, cv, rfl⟩ := own_slK HOW.out
            clear hlt
            go_wp2
            go_ret
            have h9 := Reads.of_own HOW.out
            rw [← HV2.out] at h9
            have h8 : res.length = n := by rw [HV2.out]; simp
            rw [h8]
            exact ⟨_, _, rfl, h9, HBr.out⟩
  · have hne : (chkM m != 0) = true := by rw [bne_iff_ne]; exact hz
    have HV := Lib.hid (HE.out (by unfold isG; rw [decide_eq_false hz]; rfl))
    generalize meetL m gi = res at *
    generalize chkM m = ce at *
    clear hz
    go_enter Tryz.func167, Tryz.ntmps167
    go_wp2_with fail
    refine (HC.out _ HBe.out).mono ?_
    rintro e w2 ⟨rfl, hb2⟩
    have HB2 := Lib.hid (HBe.out.trans (hb2.mono HBe.out.size))
    clear hb2
    go_wp2
    go_ret
    rw [HV.out]
    exact ⟨none, 0, rfl, (by unfold us; exact Reads.none_), HB2.out⟩
set_option maxHeartbeats 4000000 in
theorem rMeet_any (m : Mo) (v : Value) (gi : Int) (w : World) (hM : MoR w w.heap.size v m) (hgi : -9223372036854775808 ≤ gi ∧ gi < 9223372036854775808) :
    Calls Tryz.prog 123 #[v, .int .i64 gi] w fun e w' => ∃ A c, e = .returned (.slice A (meetL m gi).length c) ∧ Reads w' w'.heap.size 1 A (meetL m gi).length (us (meetL m gi)) ∧ Below w.heap.size w w' := by
  obtain ⟨A1, c1, A2, c2, rfl, hv, hr⟩ := hM.ex
  have HBe : Hid (Below w.heap.size w (w.alloc (.cells #[.int .i64 m.n, .slice A1 m.val.length c1, .slice A2 m.rel.length c2] 25))) := Lib.hid ((Below.refl _ w).alloc (Nat.le_refl _) _)
  have HC := Lib.hid (rMeetComb_any m (.agg #[.int .i64 m.n, .slice A1 m.val.length c1, .slice A2 m.rel.length c2]) gi _ (hM.below HBe.out HBe.out.size) hgi)
  clear hM hv hr
  generalize meetL m gi = res at *
  go_enter Tryz.func123, Tryz.ntmps123
  go_wp2_with fail
  refine (HC.out).mono ?_
  rintro e w2 ⟨A, c, rfl, hR, hb2⟩
  have HB2 := Lib.hid (HBe.out.trans (hb2.mono HBe.out.size))
  have HRR := Lib.hid hR
  clear hb2 hR
  go_wp2
  go_ret
  exact ⟨_, _, rfl, HRR.out, HB2.out⟩
end Go.Proofs.YtjpmhbnikoggaaaGreatDoor
