/- FormulaRebuilds (P5.6): every subformula of a formula is the result of the constructor of its last operator, applied to its operands. No condition. -/
import Derived.Test.YtcbmncafmofcpaaMl
import Derived.Test.YtcbmncafmofcpaaMm
import Derived.Test.YtcbmncafmofcpaaNb
namespace Go.Proofs.Ytcbmncafmofcpaa.formulaRebuilds
open Go.ChangeShapes Go.WideShapes Go.ChangeAt Go.RowKit Go.Proofs.Ytcbmncafmofcpaa Go.Proofs.Ws
set_option maxRecDepth 100000 in
set_option maxHeartbeats 8000000 in
theorem walk (f : List Nd) (A0 : Option Addr) (n0 c0 : Nat) (w : World) (h0 : NdRow w A0 n0 c0 f) :
    Calls Try.prog 10 #[.slice A0 n0 c0] w fun e w' => e = .returned (.bool true) ∧ Below w.heap.size w w' := by
  have H0 := Lib.hid h0.1
  have hm0 := h0.2.2.2
  have HAW := Lib.hid (fun W => awake_any W)
  have HCK : Hid (∀ W, Below w.heap.size w W → Calls Try.prog 13 #[.slice A0 n0 c0] W fun e w' => e = .returned (.int .i64 (fErr f)) ∧ Below W.heap.size W w') := Lib.hid (fun W h => rCheck_any f A0 n0 c0 W ((H0.out.below h).more h.size) hm0)
  have HSB : Hid (∀ W, Below w.heap.size w W → Calls Try.prog 32 #[.slice A0 n0 c0] W fun e w' => ∃ v, e = .returned v ∧ LL w' W.heap.size v (subsF f) ∧ Below W.heap.size W w') := Lib.hid (fun W h => pSubs_any f A0 n0 c0 W ((H0.out.below h).more h.size) hm0)
  -- of each subformula: its place, its last node
  have HIT : Hid (∀ W0 b v, LL W0 b v (subsF f) → ∃ A c, v = .slice A (subsF f).length c ∧ ∀ k, k < (subsF f).length → ∃ (s : List Nd) (ad : Addr) (Aj : Option Addr) (cj : Nat), A = some ad ∧ W0.cell? (ad.add k) = some (.slice Aj s.length cj) ∧
      Reads W0 W0.heap.size 6 Aj s.length (nds s) ∧ s.length ≤ cj ∧ fErr s = 0 ∧ ∃ r, trOk r ∧ s = canT r) := Lib.hid (by
    intro W0 b v hL
    obtain ⟨vs, h1, h2⟩ := hL.row
    obtain ⟨A, c, rfl⟩ := own_sl h1
    refine ⟨A, c, rfl, fun k hk => ?_⟩
    obtain ⟨ad, hA, _, hc⟩ := (Reads.of_own h1).2 (by omega)
    obtain ⟨Aj, cj, hv, ho⟩ := h2 k hk
    have hs : (subsF f).getD k [] ∈ subsF f := by rw [List.getD_eq_getElem?_getD, List.getElem?_eq_getElem hk]; exact List.getElem_mem hk
    obtain ⟨_, t, r, ht, hc2, hr2, e, h3, _⟩ := subs_tree hs
    exact ⟨_, ad, Aj, cj, hA, hc k _ hv, Reads.of_own ho, own_cap ho, h3, r, subT_ok hr2 ht, e⟩)
  have hns : (subsF f).length ≤ 200 := by
    unfold subsF
    rw [List.length_map, List.length_range]
    by_cases hz : fErr f = 0
    · exact (fErr_ok (compF_ok hz)).2.1
    · unfold compF; rw [if_neg hz]; exact Nat.zero_le _
  generalize (subsF f).length = ns at *
  unfold maxLen at hm0
  clear h0
  by_cases hbig : n0 ≤ 60
  · have d0 : decide (60 < (n0 : Int)) = false := decide_eq_false (by omega)
    have e0 : decide (60 < n0) = false := decide_eq_false (by omega)
    clear hbig
    by_cases hz : fErr f = 0
    · rw [hz] at HCK
      clear hz
      go_enter Try.func10, Try.ntmps10
      go_wp2_with fail
      refine (HAW.out _).mono ?_
      rintro e w1 ⟨rfl, hb⟩
      have HB1 := Lib.hid hb
      clear hb
      go_wp2_with fail
      refine (HCK.out _ HB1.out).mono ?_
      rintro e w2 ⟨rfl, hb⟩
      have HB2 := Lib.hid (HB1.out.trans (hb.mono HB1.out.size))
      clear hb
      go_wp2_with fail
      refine (HSB.out _ HB2.out).mono ?_
      rintro e w7 ⟨v, rfl, hL, hb⟩
      have HB7 := Lib.hid (HB2.out.trans (hb.mono HB2.out.size))
      obtain ⟨A, c, rfl, hi⟩ := HIT.out w7 _ v hL
      have HI := Lib.hid hi
      clear hb hL hi
      go_wp2
      go_loopw [4, 5, 6, 23] (fun _ _ _ i wr => ∃ k : Nat, k ≤ ns ∧ i = .int .i64 k ∧ Hid (Below w7.heap.size w7 wr)) (fun _ _ _ i _ => ns - (intOf i).toNat)
      case atStart => exact ⟨0, Nat.zero_le _, rfl, Lib.hid (Below.refl _ _)⟩
      case round =>
        obtain ⟨k, hk, rfl, HB⟩ := hrel
        by_cases hlt : k < ns
        · obtain ⟨s, ad, Aj, cj, rfl, hcj, hrs, hcap, hzs, r, hr, hs⟩ := HI.out k hlt
          have hc1 := (HB.out.cell (p := ad.add k) (World.block_lt_of_cell? w7 _ hcj)).trans hcj
          have hn0 : s.length ≠ 0 := by simpa using (fErr_ok hzs).1
          have h200 := (fErr_ok hzs).2.1
          have hi9 : s.length - 1 < s.length := by omega
          have hfld := fErr_fld hzs _ (getD_mem hi9)
          have hnb : ((s.length : Int) == 0) = false := by rw [beq_eq_false_iff_ne]; omega
          have HRS := Lib.hid hrs
          have RB := rebuild hr hs hzs
          obtain ⟨k2, hk2⟩ : ∃ k2 : Nat, k2 = s.length - 1 := ⟨_, rfl⟩
          rw [← hk2] at RB hfld
          obtain ⟨ad2, rfl, hb9, m0, m1, m2, m3, m4, m5⟩ := (hrs.below HB.out).nd_at (k := k2) (by omega)
          generalize hx : s.getD k2 nd0 = x at *
          have l1 := add_cell m1
          have l2 := add_cell m2
          have l3 := add_cell m3
          have l4 := add_cell m4
          have l5 := add_cell m5
          have hs1 : wrap64 ((s.length : Int) - 1) = (k2 : Int) := by unfold wrap64; omega
          have hs2 : IntKind.i64.wrap ((s.length : Int) - 1) = (k2 : Int) := by rw [IntKind.wrap_i64]; omega
          have hs3 : (s.length : Int) - 1 = (k2 : Int) := by omega
          have hkl : k2 < s.length := by omega
          have HUX := Lib.hid (fun W => rUsesX_any x.op hfld.1 W)
          have HUY := Lib.hid (fun W => rUsesY_any x.op hfld.1 W)
          have HKN := Lib.hid hfld.1
          have HRB := Lib.hid RB
          have HSU : Hid (∀ W z, Below w7.heap.size w7 W → Calls Try.prog 29 #[.slice (some ad2) s.length cj, .int .i64 z] W fun e w' => ∃ A' c', e = .returned (.slice A' (subF s z).length c') ∧ w'.ownsRow W.heap.size 44 6 (.slice A' (subF s z).length c') (subF s z).length (nds (subF s z)) ∧ Below W.heap.size W w') := Lib.hid (fun W z hb => pSub_own s z (some ad2) s.length cj W hcap ((HRS.out.below hb).more hb.size) (by unfold maxLen; omega))
          have HSL : Hid (∀ z, (subF s z).length ≤ maxLen) := Lib.hid (fun z => by
            unfold subF
            split
            · rename_i hh
              have hzz : z.toNat < s.length := by omega
              rw [canon_take (fErr_ops hh.1) hzz]
              exact Nat.le_trans (finW_out_le (fErr_ops hh.1) _ hzz) (by unfold maxLen; omega)
            · exact Nat.zero_le _)
          have HEQ : Hid (∀ W A5 c5, Below w7.heap.size w7 W → Reads W W.heap.size 6 A5 s.length (nds s) → Calls Try.prog 24 #[.slice A5 s.length c5, .slice (some ad2) s.length cj] W fun e w' => e = .returned (.bool true) ∧ Below W.heap.size W w') := Lib.hid (fun W A5 c5 hb h5 => by
            refine (rEqual_any s s A5 (some ad2) _ _ c5 cj W h5 ((HRS.out.below hb).more hb.size) (by unfold maxLen; omega) (by unfold maxLen; omega)).mono ?_
            rintro e w' ⟨rfl, h4⟩
            exact ⟨by simp, h4⟩)
          have hg0 := HB.out.size
          have HP0 : Hid (PB ((wr.alloc (.cells #[.int .i64 x.op, .int .i64 x.i, .int .i64 x.e, .int .i64 x.g, .int .i64 x.x, .int .i64 x.y] 44)).alloc (.cells #[.int .i64 x.op, .int .i64 x.i, .int .i64 x.e, .int .i64 x.g, .slice none 0 0, .slice none 0 0] 35)) wr.heap.size x (.slice none 0 0) (.slice none 0 0)) := Lib.hid (by
            have e1 := heap_alloc_new wr (.cells #[.int .i64 x.op, .int .i64 x.i, .int .i64 x.e, .int .i64 x.g, .int .i64 x.x, .int .i64 x.y] 44)
            have e2 := heap_alloc_new (wr.alloc (.cells #[.int .i64 x.op, .int .i64 x.i, .int .i64 x.e, .int .i64 x.g, .int .i64 x.x, .int .i64 x.y] 44)) (.cells #[.int .i64 x.op, .int .i64 x.i, .int .i64 x.e, .int .i64 x.g, .slice none 0 0, .slice none 0 0] 35)
            have hsz : (wr.alloc (.cells #[.int .i64 x.op, .int .i64 x.i, .int .i64 x.e, .int .i64 x.g, .int .i64 x.x, .int .i64 x.y] 44)).heap.size = wr.heap.size + 1 := by simp
            rw [hsz] at e2
            exact ⟨(Below.heap_alloc _ _ _ (by rw [hsz]; omega)).trans e1, e2⟩)
          have HBP : Hid (Below w7.heap.size w7 ((wr.alloc (.cells #[.int .i64 x.op, .int .i64 x.i, .int .i64 x.e, .int .i64 x.g, .int .i64 x.x, .int .i64 x.y] 44)).alloc (.cells #[.int .i64 x.op, .int .i64 x.i, .int .i64 x.e, .int .i64 x.g, .slice none 0 0, .slice none 0 0] 35))) := Lib.hid ((HB.out.alloc hg0 _).alloc (by simp; omega) _)
          have hsP : ((wr.alloc (.cells #[.int .i64 x.op, .int .i64 x.i, .int .i64 x.e, .int .i64 x.g, .int .i64 x.x, .int .i64 x.y] 44)).alloc (.cells #[.int .i64 x.op, .int .i64 x.i, .int .i64 x.e, .int .i64 x.g, .slice none 0 0, .slice none 0 0] 35)).heap.size = wr.heap.size + 2 := by simp
          clear hcj hrs hzs hr hs hk2 hfld RB hi9 hn0 hx
          go_wp2_with fail
          clear hc1 m0 m1 m2 m3 m4 m5 l1 l2 l3 l4 l5 hs1 hs2 hs3
          generalize (wr.alloc (.cells #[.int .i64 x.op, .int .i64 x.i, .int .i64 x.e, .int .i64 x.g, .int .i64 x.x, .int .i64 x.y] 44)).alloc (.cells #[.int .i64 x.op, .int .i64 x.i, .int .i64 x.e, .int .i64 x.g, .slice none 0 0, .slice none 0 0] 35) = wP at *
          generalize hG : wr.heap.size = G at *
          cases hux : usesX x.op with
          | false =>
            have huy : usesY x.op = false := by cases h : usesY x.op with | false => rfl | true => have := usesY_X h; rw [hux] at this; cases this
            rw [hux] at HUX
            rw [huy] at HUY
            rw [if_neg (by rw [hux]; decide), if_neg (by rw [huy]; decide)] at HRB
            refine (HUX.out _).mono ?_
            rintro e wz ⟨rfl, rfl⟩
            obtain ⟨b0, b4, b5, p0, p1, p2, p3, p4, p5, q4, q5⟩ := HP0.out.cells
            go_wp2_with fail
            refine (HUY.out _).mono ?_
            rintro e wz ⟨rfl, rfl⟩
            go_wp2_with fail
            have HBU : Hid (Calls Try.prog 38 #[.agg #[.int .i64 x.op, .int .i64 x.i, .int .i64 x.e, .int .i64 x.g, .slice none 0 0, .slice none 0 0]] wP fun e w' => ∃ A' c', e = .returned (.slice A' s.length c') ∧ Reads w' w'.heap.size 6 A' s.length (nds s) ∧ Below wP.heap.size wP w') := Lib.hid (by
              have hb := build_any x.op HKN.out x.i x.e x.g [] none 0 0 [] none 0 0 wP (Reads.none_) (Nat.zero_le _) (Reads.none_) (Nat.zero_le _)
              rw [HRB.out] at hb
              exact hb)
            refine (HBU.out).mono ?_
            rintro e w8 ⟨A5, c5, rfl, hR5, hb5⟩
            have HR5 := Lib.hid hR5
            have HB8 := Lib.hid (HBP.out.trans (hb5.mono HBP.out.size))
            clear hR5 hb5 b0 b4 b5 p0 p1 p2 p3 p4 p5 q4 q5
            go_wp2_with fail
            refine (HEQ.out _ _ _ HB8.out HR5.out).mono ?_
            rintro e w9 ⟨rfl, hb9⟩
            have HB9 := Lib.hid (HB8.out.trans (hb9.mono HB8.out.size))
            clear hb9
            go_wp2
            go_roundw
            case rel => exact ⟨k + 1, by omega, by go_num, HB9⟩
            case measure => simp [intOf]; omega
          | true =>
            rw [hux] at HUX
            refine (HUX.out _).mono ?_
            rintro e wz ⟨rfl, rfl⟩
            obtain ⟨b0, b4, b5, p0, p1, p2, p3, p4, p5, q4, q5⟩ := HP0.out.cells
            go_wp2_with fail
            refine (HSU.out _ _ HBP.out).mono ?_
            rintro e wS1 ⟨A1, c1, rfl, hO1, hbS1⟩
            have HPS1 := Lib.hid (HP0.out.below hbS1)
            have hsS1 : G + 2 ≤ wS1.heap.size := by have := hbS1.size; omega
            have HO1a := Lib.hid (ownsRow_setCell_below (own_baseR hO1 (show G + 2 ≤ wP.heap.size by omega)) (a := ⟨G + 1, 4, none⟩) (show G + 1 < G + 2 by omega) (.slice A1 (subF s x.x).length c1))
            have HP1 := Lib.hid (HPS1.out.set4 (v := .slice A1 (subF s x.x).length c1))
            have HBP1 : Hid (Below w7.heap.size w7 (wS1.setCell ⟨G + 1, 4, none⟩ (.slice A1 (subF s x.x).length c1))) := Lib.hid ((HBP.out.trans (hbS1.mono HBP.out.size)).setCell (by show w7.heap.size ≤ G + 1; omega) _)
            have hsW1 : (wS1.setCell ⟨G + 1, 4, none⟩ (.slice A1 (subF s x.x).length c1)).heap.size = wS1.heap.size := by simp
            clear hO1 hbS1 b0 b4 b5 p0 p1 p2 p3 p4 p5 q4 q5
            obtain ⟨b0, b4, b5, p0, p1, p2, p3, p4, p5, q4, q5⟩ := HPS1.out.cells
            go_wp2_with fail
            clear b0 b4 b5 p0 p1 p2 p3 p4 p5 q4 q5
            generalize wS1.setCell ⟨G + 1, 4, none⟩ (.slice A1 (subF s x.x).length c1) = wT1 at *
            cases huy : usesY x.op with
            | false =>
              rw [huy] at HUY
              rw [if_pos hux, if_neg (by rw [huy]; decide)] at HRB
              refine (HUY.out _).mono ?_
              rintro e wz ⟨rfl, rfl⟩
              obtain ⟨b0, b4, b5, p0, p1, p2, p3, p4, p5, q4, q5⟩ := HP1.out.cells
              go_wp2_with fail
              have HBU : Hid (Calls Try.prog 38 #[.agg #[.int .i64 x.op, .int .i64 x.i, .int .i64 x.e, .int .i64 x.g, .slice A1 (subF s x.x).length c1, .slice none 0 0]] wT1 fun e w' => ∃ A' c', e = .returned (.slice A' s.length c') ∧ Reads w' w'.heap.size 6 A' s.length (nds s) ∧ Below wT1.heap.size wT1 w') := Lib.hid (by
                have hb := build_any x.op HKN.out x.i x.e x.g (subF s x.x) A1 _ c1 [] none 0 0 wT1 (Reads.of_own HO1a.out) (HSL.out _) (Reads.none_) (Nat.zero_le _)
                rw [HRB.out] at hb
                exact hb)
              refine (HBU.out).mono ?_
              rintro e w8 ⟨A5, c5, rfl, hR5, hb5⟩
              have HR5 := Lib.hid hR5
              have HB8 := Lib.hid (HBP1.out.trans (hb5.mono HBP1.out.size))
              clear hR5 hb5 b0 b4 b5 p0 p1 p2 p3 p4 p5 q4 q5
              go_wp2_with fail
              refine (HEQ.out _ _ _ HB8.out HR5.out).mono ?_
              rintro e w9 ⟨rfl, hb9⟩
              have HB9 := Lib.hid (HB8.out.trans (hb9.mono HB8.out.size))
              clear hb9
              go_wp2
              go_roundw
              case rel => exact ⟨k + 1, by omega, by go_num, HB9⟩
              case measure => simp [intOf]; omega
            | true =>
              rw [huy] at HUY
              rw [if_pos hux, if_pos huy] at HRB
              refine (HUY.out _).mono ?_
              rintro e wz ⟨rfl, rfl⟩
              obtain ⟨b0, b4, b5, p0, p1, p2, p3, p4, p5, q4, q5⟩ := HP1.out.cells
              go_wp2_with fail
              refine (HSU.out _ _ HBP1.out).mono ?_
              rintro e wS2 ⟨A2, c2, rfl, hO2, hbS2⟩
              have HPS2 := Lib.hid (HP1.out.below hbS2)
              have hsS2 : G + 2 ≤ wS2.heap.size := by have := hbS2.size; omega
              have HO2a := Lib.hid (ownsRow_setCell_below (own_baseR hO2 (show G + 2 ≤ wT1.heap.size by omega)) (a := ⟨G + 1, 5, none⟩) (show G + 1 < G + 2 by omega) (.slice A2 (subF s x.y).length c2))
              have HP2 := Lib.hid (HPS2.out.set5 (v := .slice A2 (subF s x.y).length c2))
              have HBP2 : Hid (Below w7.heap.size w7 (wS2.setCell ⟨G + 1, 5, none⟩ (.slice A2 (subF s x.y).length c2))) := Lib.hid ((HBP1.out.trans (hbS2.mono HBP1.out.size)).setCell (by show w7.heap.size ≤ G + 1; omega) _)
              have hsW2 : (wS2.setCell ⟨G + 1, 5, none⟩ (.slice A2 (subF s x.y).length c2)).heap.size = wS2.heap.size := by simp
              have HO1ab := Lib.hid (ownsRow_setCell_below (own_keep1 HO1a.out (fun g hg => hbS2.block g (HO1a.out.lt g hg).2)) (a := ⟨G + 1, 5, none⟩) (show G + 1 < G + 2 by omega) (.slice A2 (subF s x.y).length c2))
              clear hO2 hbS2 b0 b4 b5 p0 p1 p2 p3 p4 p5 q4 q5
              obtain ⟨b0, b4, b5, p0, p1, p2, p3, p4, p5, q4, q5⟩ := HPS2.out.cells
              go_wp2_with (fail)
              have HBU : Hid (Calls Try.prog 38 #[.agg #[.int .i64 x.op, .int .i64 x.i, .int .i64 x.e, .int .i64 x.g, .slice A1 (subF s x.x).length c1, .slice A2 (subF s x.y).length c2]] (wS2.setCell ⟨G + 1, 5, none⟩ (.slice A2 (subF s x.y).length c2)) fun e w' => ∃ A' c', e = .returned (.slice A' s.length c') ∧ Reads w' w'.heap.size 6 A' s.length (nds s) ∧ Below (wS2.setCell ⟨G + 1, 5, none⟩ (.slice A2 (subF s x.y).length c2)).heap.size (wS2.setCell ⟨G + 1, 5, none⟩ (.slice A2 (subF s x.y).length c2)) w') := Lib.hid (by
                have hb := build_any x.op HKN.out x.i x.e x.g (subF s x.x) A1 _ c1 (subF s x.y) A2 _ c2 (wS2.setCell ⟨G + 1, 5, none⟩ (.slice A2 (subF s x.y).length c2)) (Reads.of_own HO1ab.out) (HSL.out _) (Reads.of_own HO2a.out) (HSL.out _)
                rw [HRB.out] at hb
                exact hb)
              refine (HBU.out).mono ?_
              rintro e w8 ⟨A5, c5, rfl, hR5, hb5⟩
              have HR5 := Lib.hid hR5
              have HB8 := Lib.hid (HBP2.out.trans (hb5.mono HBP2.out.size))
              clear hR5 hb5 b0 b4 b5 p0 p1 p2 p3 p4 p5 q4 q5
              go_wp2_with fail
              refine (HEQ.out _ _ _ HB8.out HR5.out).mono ?_
              rintro e w9 ⟨rfl, hb9⟩
              have HB9 := Lib.hid (HB8.out.trans (hb9.mono HB8.out.size))
              clear hb9
              go_wp2
              go_roundw
              case rel => exact ⟨k + 1, by omega, by go_num, HB9⟩
              case measure => simp [intOf]; omega
        · go_wp2
          go_ret
          exact ⟨rfl, HB7.out.trans (HB.out.mono HB7.out.size)⟩
    · have hzb : (fErr f != 0) = true := by simpa using hz
      generalize fErr f = z at *
      clear hz
      go_enter Try.func10, Try.ntmps10
      go_wp2_with fail
      refine (HAW.out _).mono ?_
      rintro e w1 ⟨rfl, hb⟩
      have HB1 := Lib.hid hb
      clear hb
      go_wp2_with fail
      refine (HCK.out _ HB1.out).mono ?_
      rintro e w2 ⟨rfl, hb⟩
      have HB2 := Lib.hid (HB1.out.trans (hb.mono HB1.out.size))
      clear hb
      go_wp2_with fail
      refine (HAW.out _).mono ?_
      rintro e w3 ⟨rfl, hb⟩
      have HB3 := Lib.hid (HB2.out.trans (hb.mono HB2.out.size))
      clear hb
      go_wp2
      go_ret
      exact ⟨rfl, HB3.out⟩
  · have d0 : decide (60 < (n0 : Int)) = true := decide_eq_true (by omega)
    have e0 : decide (60 < n0) = true := decide_eq_true (by omega)
    clear hbig
    go_enter Try.func10, Try.ntmps10
    go_wp2_with fail
    refine (HAW.out _).mono ?_
    rintro e w1 ⟨rfl, hb⟩
    have HB1 := Lib.hid hb
    clear hb
    go_wp2_with fail
    refine (HAW.out _).mono ?_
    rintro e w2 ⟨rfl, hb⟩
    have HB2 := Lib.hid (HB1.out.trans (hb.mono HB1.out.size))
    clear hb
    go_wp2
    go_ret
    exact ⟨rfl, HB2.out⟩
set_option maxRecDepth 100000 in
theorem contract (H : Type) (enc : TypeId × Value → H) (W : World) (base : Nat) (args : Array Value) (ds gs : List (DataW H)) (before : List MemPlace)
    (hval : ∀ (j : Nat) t v, Try.f10.params[j]? = some t → args[j]? = some v → Value.okWide Try.prog W .any base t v)
    (hW : DataW.Whole enc Try.prog Try.f10.params.toList Rows.formulaRebuildsSpec.vars false W args.toList ds gs before) :
    Calls Try.prog 10 args W fun e W' => ∃ v, e = .returned v ∧ Rows.formulaRebuildsSpec.post enc Try.prog Try.f10 false true false false W args v W' := by
  have hW' := hW
  obtain ⟨p, q, hA0, hV, rfl, hfz, hnd⟩ := hW
  have hA : DataW.TrodAll enc Try.prog W 0 (fun _ => true) true Try.f10.params.toList args.toList ds p := hA0
  rw [Try.params10] at hA hval
  obtain ⟨v0, vs0, d0, ds0, p0, q0, hargs, rfl, rfl, h0, r0⟩ := trodAll_cons hA
  obtain ⟨rfl, rfl, rfl⟩ := trodAll_nil r0
  obtain rfl : args = #[v0] := by cases args; simp_all
  obtain ⟨rfl, rfl⟩ := trodVars_none hV
  obtain ⟨A0, n0, c0, rfl⟩ := okWide_slice Try.underlying22 (hval 0 22 v0 rfl rfl)
  obtain ⟨z0, w0⟩ : ∃ l, NdRow W A0 n0 c0 l := by
    obtain ⟨fuel, hf⟩ := h0
    exact open_nodes hf
  have k0 := h0
  have lt0 : ∀ x ∈ p0, x.block < W.heap.size := by obtain ⟨m, hm⟩ := k0; exact DataW.trod_lt m _ _ _ hm
  clear hA0
  have hwalk : Calls Try.prog 10 #[.slice A0 n0 c0] W fun e w' => e = .returned (.bool true) ∧ Below W.heap.size W w' := walk z0 A0 n0 c0 W w0
  refine hwalk.mono fun e W' ⟨he, hg⟩ => ?_
  subst he
  exact ⟨_, rfl, _, _, _, [], _, [], hW', trodAll_mk1 (shut_bool Try.underlying4 _), (trodAll_cons_mk (Below.trod laidOut (by kernel_rfl) (of_decide_eq_true (by kernel_rfl)) k0 hg lt0) trodAll_mk0), rfl, hg.frame _, fun h => by cases h⟩
theorem reads (os : Os) {H : Type} (enc : TypeId × Value → H) : ∃ places, DataW.whole enc Try.prog ((laidW os).forCall (fun _ _ => 0) ⟨#[], #[.slice none 0 0], []⟩).memory Try.f10.params.toList Rows.formulaRebuildsSpec.vars false #[Value.slice none 0 0].toList 8 = some ([.nil], [], places) :=
  ⟨[], by kernel_rfl⟩
set_option maxRecDepth 100000 in
theorem lifted (os : Os) (started : os.Started) (H : Type) (enc : TypeId × Value → H) (F : Stop.Interp) :
    ReturnsInHanded {} Try.checked os 10 .any ((OpenSpec.ofChange Rows.formulaRebuildsSpec).preRow enc Try.prog Try.f10 Rows.formulaRebuildsRow.domain false Rows.formulaRebuildsRow.laid) (((OpenSpec.ofChange Rows.formulaRebuildsSpec).at F).post enc Try.prog Try.f10 false true false false) := by
  obtain ⟨places, hx⟩ := reads os enc
  refine returnsInHanded_of_row (C := Try.checked) (s := OpenSpec.ofChange Rows.formulaRebuildsSpec) own started (by kernel_rfl) Try.func10
    (witness_row_at (enc := enc) (C := Try.checked) false (laidW os) #[.slice none 0 0] (laidW_os os) (vars_ok os _) (heap_ok os _) (by kernel_rfl)
      (OpenSpec.preRow_of_cond 8 hx (by kernel_rfl) (fun k hk => by cases hk) (by kernel_rfl) (laid_met os _))) ?_
  intro W base args ds gs before hval hW _ _ _ _ _ _
  exact contract H enc W base args ds gs before hval hW
theorem said : Rows.FormulaRebuildsSaid :=
  OpenClaim.holds_of_cond 10 Try.f10 rfl rfl rfl rfl rfl rfl rfl ⟨rfl, rfl, rfl, rfl, rfl⟩ rfl rfl rfl rfl rfl (by kernel_rfl) Try.func10 (by kernel_rfl)
    (of_decide_eq_true (by kernel_rfl)) (by unfold Func.isWrapper; first | (rw [if_pos (by decide +kernel)]; kernel_rfl) | (rw [if_neg (by decide +kernel)]; exact ⟨rfl, rfl⟩))
    (fun os started H enc _ F => by rw [OpenClaim.pre_eq_preRow]; exact lifted os started H enc F)
#print axioms said
end Go.Proofs.Ytcbmncafmofcpaa.formulaRebuilds
