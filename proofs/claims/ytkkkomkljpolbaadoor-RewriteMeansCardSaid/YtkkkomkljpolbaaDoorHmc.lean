/- Layer 8: the law's truth of a formula in a small model. -/
import Derived.Test.YtkkkomkljpolbaaDoorMHa
namespace Go.Proofs.YtkkkomkljpolbaaDoor
open Go.RowKit Go.Proofs.Ws Go.Maps
set_option maxRecDepth 100000
set_option maxHeartbeats 32000000 in
theorem truth_any (F : Nat → Int) (T : Nat → Nat → Int) (f : List Nd) (A : Option Addr) (n c : Nat) (w : World) (hR : Reads w w.heap.size 6 A n (nds f)) (hm : n ≤ maxLen) (hz : fErr f = 0) (hst : ∀ x ∈ compF f, stF x) :
    Calls Tryd.prog 26 #[mV F T, .slice A n c] w fun e w' => e = .returned (.tuple #[.int .u8 ((trL F T (compF f) (compF f).length).getD ((compF f).length - 1) 0), .bool true]) ∧ Below w.heap.size w w' := by
  have HR := Lib.hid hR
  have HC := Lib.hid (fun W (h : Reads W W.heap.size 6 A n (nds f)) => rCompact_any f A n c W h hm)
  have HAF := Lib.hid (fun (g : Int) (hg : g = 1 ∨ g = 2 ∨ g = 3) (both : Bool) (s : Int) (W : World) => after_any F T g (b0G g) (b1G g) both s (gbits hg) W)
  have HCO := Lib.hid (fun (g : Int) (hg : g = 1 ∨ g = 2 ∨ g = 3) (x y : Int) (W : World) => common_any F T g (b0G g) (b1G g) x y (gbits hg) W)
  have hk := compF_ok hz
  have ok := Lib.hid (OkL_of hk)
  have hq200 := (fErr_ok hk).2.1
  have HST := Lib.hid hst
  have HFL := Lib.hid (fErr_fld hk)
  obtain ⟨i0, hi, hz0, hz1, hz2⟩ := info_parts Tryd.infoU8
  have HB0 : Hid (Below w.heap.size w (w.alloc (.cells #[.int .u8 (F 0), .int .u8 (T 0 0), .int .u8 (T 0 1), .int .u8 (F 1), .int .u8 (T 1 0), .int .u8 (T 1 1), .int .u8 (F 2), .int .u8 (T 2 0), .int .u8 (T 2 1), .int .u8 (F 3), .int .u8 (T 3 0), .int .u8 (T 3 1)] 36))) := Lib.hid ((Below.refl _ w).alloc (Nat.le_refl _) _)
  have HC0 : Hid ((w.alloc (.cells #[.int .u8 (F 0), .int .u8 (T 0 0), .int .u8 (T 0 1), .int .u8 (F 1), .int .u8 (T 1 0), .int .u8 (T 1 1), .int .u8 (F 2), .int .u8 (T 2 0), .int .u8 (T 2 1), .int .u8 (F 3), .int .u8 (T 3 0), .int .u8 (T 3 1)] 36)).heap[w.heap.size]? = some (.cells #[.int .u8 (F 0), .int .u8 (T 0 0), .int .u8 (T 0 1), .int .u8 (F 1), .int .u8 (T 1 0), .int .u8 (T 1 1), .int .u8 (F 2), .int .u8 (T 2 0), .int .u8 (T 2 1), .int .u8 (F 3), .int .u8 (T 3 0), .int .u8 (T 3 1)] 36)) := Lib.hid (heap_alloc_new w _)
  have hs0 : w.heap.size < (w.alloc (.cells #[.int .u8 (F 0), .int .u8 (T 0 0), .int .u8 (T 0 1), .int .u8 (F 1), .int .u8 (T 1 0), .int .u8 (T 1 1), .int .u8 (F 2), .int .u8 (T 2 0), .int .u8 (T 2 1), .int .u8 (F 3), .int .u8 (T 3 0), .int .u8 (T 3 1)] 36)).heap.size := by simp
  have HS0 := Lib.hid hs0
  unfold mV at *
  clear hR hm hz hst hk hs0
  generalize compF f = q at *
  go_enter Tryd.func26, Tryd.ntmps26
  go_wp2_with fail
  generalize w.alloc (.cells #[.int .u8 (F 0), .int .u8 (T 0 0), .int .u8 (T 0 1), .int .u8 (F 1), .int .u8 (T 1 0), .int .u8 (T 1 1), .int .u8 (F 2), .int .u8 (T 2 0), .int .u8 (T 2 1), .int .u8 (F 3), .int .u8 (T 3 0), .int .u8 (T 3 1)] 36) = w1 at *
  refine (HC.out w1 ((HR.out.below HB0.out).more HB0.out.size)).mono ?_
  rintro r w2 ⟨Aq, cq, rfl, hq, hb2⟩
  have HQ := Lib.hid hq
  have HB2 := Lib.hid (HB0.out.trans (hb2.mono HB0.out.size))
  have HC2 := Lib.hid ((hb2.block _ HS0.out).trans HC0.out)
  have HS2 : Hid (w.heap.size < w2.heap.size) := Lib.hid (Nat.lt_of_lt_of_le HS0.out hb2.size)
  clear hb2 hq HC HR HC0 HS0
  go_wp2
  go_loopw [6, 8, 9, 10, 11, 12, 16, 34, 44] (fun v _ _ _ _ _ i _ _ wr => ∃ j : Nat, j ≤ q.length ∧ i = .int .i64 j ∧ Hid (wr.ownsRow w2.heap.size 5 1 v j (u8s (trL F T q j))) ∧ Hid (Below w2.heap.size w2 wr)) (fun _ _ _ _ _ _ i _ _ _ => q.length - (intOf i).toNat)
  case atStart => exact ⟨0, Nat.zero_le _, rfl, Lib.hid (World.ownsRow_nil _ _ _ _), Lib.hid (Below.refl _ _)⟩
  case round =>
    obtain ⟨j, hj, rfl, HOW, HBI⟩ := hrel
    obtain ⟨Al, cl, rfl⟩ := own_slU HOW.out
    have hsz := HBI.out.size
    have hql := hq200
    by_cases hlj : j < q.length
    · obtain ⟨aq, rfl, hbq, m0, m1, m2, m3, m4, m5⟩ := (HQ.out.below HBI.out).nd_at hlj
      have l1 := add_cell m1
      have l2 := add_cell m2
      have l3 := add_cell m3
      have l4 := add_cell m4
      have l5 := add_cell m5
      have HEXT : Hid (trL F T q (j + 1) = trL F T q j ++ [trN F T (q.getD j nd0) (if usesX (q.getD j nd0).op = true then (trL F T q j).getD (q.getD j nd0).x.toNat 0 else 0) (if usesY (q.getD j nd0).op = true then (trL F T q j).getD (q.getD j nd0).y.toNat 0 else 0)]) := Lib.hid rfl
      have HLEN := Lib.hid (trL_len F T q j)
      have hsn := HST.out _ (getD_mem hlj)
      have hox := ok.out.ops j hlj
      have hkn : known (q.getD j nd0).op = true := (HFL.out _ (getD_mem hlj)).1
      have HRU : Hid (∀ W : World, Below wr.heap.size wr W → Reads W W.heap.size 1 Al j (u8s (trL F T q j))) := Lib.hid (fun W h => ((Reads.of_own HOW.out).below h).more h.size)
      generalize hln : trL F T q (j + 1) = ln at *
      have HLN := Lib.hid hln
      clear hln
      generalize trL F T q j = l at *
      generalize q.getD j nd0 = y at *
      obtain ⟨op, i, e, g, x, yy⟩ := y
      dsimp only at m0 m1 m2 m3 m4 m5 l1 l2 l3 l4 l5 hkn HEXT hox
      unfold stF at hsn
      dsimp only at hsn
      have HOP := Lib.hid hox
      have HSN := Lib.hid hsn
      have HUX := Lib.hid (fun W => rUsesX_any op hkn W)
      have HUY := Lib.hid (fun W => rUsesY_any op hkn W)
      clear hox
      have hop13 : op = 1 ∨ op = 2 ∨ op = 3 ∨ op = 4 ∨ op = 5 ∨ op = 6 ∨ op = 7 ∨ op = 8 ∨ op = 9 ∨ op = 10 ∨ op = 11 ∨ op = 12 ∨ op = 13 := by omega
      clear hsn hkn
      rcases hop13 with rfl | rfl | rfl | rfl | rfl | rfl | rfl | rfl | rfl | rfl | rfl | rfl | rfl
      · as_aux_lemma =>
          have HE : Hid (ln = l ++ [15]) := Lib.hid (by rw [HEXT.out]; rfl)
          have HBX := Lib.hid (Box.made wr ⟨1, i, e, g, x, yy⟩ 62)
          have HBA : Hid (Below wr.heap.size wr (wr.alloc (.cells #[.int .i64 1, .int .i64 i, .int .i64 e, .int .i64 g, .int .i64 x, .int .i64 yy] 62))) := Lib.hid ((Below.refl _ wr).alloc (Nat.le_refl _) _)
          have HSA : Hid (wr.heap.size < (wr.alloc (.cells #[.int .i64 1, .int .i64 i, .int .i64 e, .int .i64 g, .int .i64 x, .int .i64 yy] 62)).heap.size) := Lib.hid (by simp)
          go_wp2_with fail
          refine (HUX.out _).mono ?_
          rintro r w4 ⟨rfl, rfl⟩
          generalize wr.alloc (.cells #[.int .i64 1, .int .i64 i, .int .i64 e, .int .i64 g, .int .i64 x, .int .i64 yy] 62) = w3 at *
          have HBW := Lib.hid (HBI.out.trans (HBA.out.mono hsz))
          have HCM := Lib.hid ((HBW.out.block _ HS2.out).trans HC2.out)
          clear m0 m1 m2 m3 m4 m5 l1 l2 l3 l4 l5
          obtain ⟨b0, b1, b2, b3, b4, b5, _⟩ := HBX.out
          go_wp2_with fail
          refine (HUY.out _).mono ?_
          rintro r w4 ⟨rfl, rfl⟩
          have HBz := Lib.hid HBA.out
          have HOWx := Lib.hid (own_keep1 HOW.out (fun g hg => (HBz.out.block g (HOW.out.lt g hg).2)))
          have hown := HOWx.out
          have hsz3 := HBW.out.size
          go_wp2_with (at_builtin; refine wpList_append_own _ rfl _ _ 83 rfl w2.heap.size 5 i0 (.int .u8 0) 1 1 Tryd.underlying83 hi hz0 hz1 hz2 rfl (by decide) _ _ _ rfl (hown.alloc _) ⟨w3.heap.size, 0, none⟩ 1 1 [.int .u8 (15)] rfl rfl ?k1 ?k2 ?k3 ?k4 ?k5 ?_)
          case k2 => intro u hu; simp at hu; subst hu; rfl
          case k3 => unfold maxLen; omega
          case k4 => omega
          case k5 => simp; omega
          case k1 =>
            intro j' u hj'
            match j', hj' with
            | 0, hj' => simp at hj'; subst hj'; simp [Addr.add]
          · intro v' w9 hown' hgrow _
            have HL9 : Hid (w9.ownsRow w2.heap.size 5 1 v' (j + 1) (u8s ln)) := Lib.hid (by
              have e9 : u8s ln = u8s l ++ [.int .u8 (15)] := by
                unfold u8s
                rw [HE.out, List.map_append]
                rfl
              rw [e9]; exact hown')
            have HB9 : Hid (Below w2.heap.size w2 w9) := Lib.hid ((HBW.out.alloc (by omega) _).grown hgrow (by simp; omega) (fun g hg => (HOWx.out.lt g hg).1))
            clear hown' hgrow hown
            go_wp2
            go_roundw
            case rel => exact ⟨j + 1, by omega, by go_num, by rw [HLN.out]; exact HL9, HB9⟩
            case measure => first | (simp [intOf]; done) | (simp [intOf]; omega)
      · as_aux_lemma =>
          have HE : Hid (ln = l ++ [0]) := Lib.hid (by rw [HEXT.out]; rfl)
          have HBX := Lib.hid (Box.made wr ⟨2, i, e, g, x, yy⟩ 62)
          have HBA : Hid (Below wr.heap.size wr (wr.alloc (.cells #[.int .i64 2, .int .i64 i, .int .i64 e, .int .i64 g, .int .i64 x, .int .i64 yy] 62))) := Lib.hid ((Below.refl _ wr).alloc (Nat.le_refl _) _)
          have HSA : Hid (wr.heap.size < (wr.alloc (.cells #[.int .i64 2, .int .i64 i, .int .i64 e, .int .i64 g, .int .i64 x, .int .i64 yy] 62)).heap.size) := Lib.hid (by simp)
          go_wp2_with fail
          refine (HUX.out _).mono ?_
          rintro r w4 ⟨rfl, rfl⟩
          generalize wr.alloc (.cells #[.int .i64 2, .int .i64 i, .int .i64 e, .int .i64 g, .int .i64 x, .int .i64 yy] 62) = w3 at *
          have HBW := Lib.hid (HBI.out.trans (HBA.out.mono hsz))
          have HCM := Lib.hid ((HBW.out.block _ HS2.out).trans HC2.out)
          clear m0 m1 m2 m3 m4 m5 l1 l2 l3 l4 l5
          obtain ⟨b0, b1, b2, b3, b4, b5, _⟩ := HBX.out
          go_wp2_with fail
          refine (HUY.out _).mono ?_
          rintro r w4 ⟨rfl, rfl⟩
          have HBz := Lib.hid HBA.out
          have HOWx := Lib.hid (own_keep1 HOW.out (fun g hg => (HBz.out.block g (HOW.out.lt g hg).2)))
          have hown := HOWx.out
          have hsz3 := HBW.out.size
          go_wp2_with (at_builtin; refine wpList_append_own _ rfl _ _ 83 rfl w2.heap.size 5 i0 (.int .u8 0) 1 1 Tryd.underlying83 hi hz0 hz1 hz2 rfl (by decide) _ _ _ rfl (hown.alloc _) ⟨w3.heap.size, 0, none⟩ 1 1 [.int .u8 (0)] rfl rfl ?k1 ?k2 ?k3 ?k4 ?k5 ?_)
          case k2 => intro u hu; simp at hu; subst hu; rfl
          case k3 => unfold maxLen; omega
          case k4 => omega
          case k5 => simp; omega
          case k1 =>
            intro j' u hj'
            match j', hj' with
            | 0, hj' => simp at hj'; subst hj'; simp [Addr.add]
          · intro v' w9 hown' hgrow _
            have HL9 : Hid (w9.ownsRow w2.heap.size 5 1 v' (j + 1) (u8s ln)) := Lib.hid (by
              have e9 : u8s ln = u8s l ++ [.int .u8 (0)] := by
                unfold u8s
                rw [HE.out, List.map_append]
                rfl
              rw [e9]; exact hown')
            have HB9 : Hid (Below w2.heap.size w2 w9) := Lib.hid ((HBW.out.alloc (by omega) _).grown hgrow (by simp; omega) (fun g hg => (HOWx.out.lt g hg).1))
            clear hown' hgrow hown
            go_wp2
            go_roundw
            case rel => exact ⟨j + 1, by omega, by go_num, by rw [HLN.out]; exact HL9, HB9⟩
            case measure => first | (simp [intOf]; done) | (simp [intOf]; omega)
      · as_aux_lemma =>
          rcases (show i = 0 ∨ i = 1 ∨ i = 2 ∨ i = 3 ∨ i = 4 ∨ i = 5 ∨ i = 6 ∨ i = 7 by have := HSN.out.2.2.1 rfl; omega) with rfl | rfl | rfl | rfl | rfl | rfl | rfl | rfl
          · as_aux_lemma =>
              have HE : Hid (ln = l ++ [faI F 0 4]) := Lib.hid (by rw [HEXT.out]; rfl)
              have HBX := Lib.hid (Box.made wr ⟨3, 0, e, g, x, yy⟩ 62)
              have HBA : Hid (Below wr.heap.size wr (wr.alloc (.cells #[.int .i64 3, .int .i64 0, .int .i64 e, .int .i64 g, .int .i64 x, .int .i64 yy] 62))) := Lib.hid ((Below.refl _ wr).alloc (Nat.le_refl _) _)
              have HSA : Hid (wr.heap.size < (wr.alloc (.cells #[.int .i64 3, .int .i64 0, .int .i64 e, .int .i64 g, .int .i64 x, .int .i64 yy] 62)).heap.size) := Lib.hid (by simp)
              go_wp2_with fail
              refine (HUX.out _).mono ?_
              rintro r w4 ⟨rfl, rfl⟩
              generalize wr.alloc (.cells #[.int .i64 3, .int .i64 0, .int .i64 e, .int .i64 g, .int .i64 x, .int .i64 yy] 62) = w3 at *
              have HBW := Lib.hid (HBI.out.trans (HBA.out.mono hsz))
              have HCM := Lib.hid ((HBW.out.block _ HS2.out).trans HC2.out)
              clear m0 m1 m2 m3 m4 m5 l1 l2 l3 l4 l5
              obtain ⟨b0, b1, b2, b3, b4, b5, _⟩ := HBX.out
              go_wp2_with fail
              refine (HUY.out _).mono ?_
              rintro r w4 ⟨rfl, rfl⟩
              generalize wr = wo at *
              go_wp2
              go_loopw [11, 12, 44] (fun v _ k wr => ∃ t : Nat, t ≤ 4 ∧ k = .int .i64 t ∧ v = .int .u8 (faI F 0 t) ∧ Hid (Below w3.heap.size w3 wr)) (fun _ _ k _ => 4 - (intOf k).toNat)
              case atStart => exact ⟨0, by omega, rfl, rfl, Lib.hid (Below.refl _ _)⟩
              case round =>
                obtain ⟨t, ht, rfl, rfl, HBQ⟩ := hrel
                have ht4 : t = 0 ∨ t = 1 ∨ t = 2 ∨ t = 3 ∨ t = 4 := by omega
                clear ht
                have HCQ := Lib.hid ((HBQ.out.block _ (Nat.lt_of_lt_of_le HS2.out HBW.out.size)).trans HCM.out)
                have q1 := (World.cell?_of_block (a := ⟨wo.heap.size, 1, none⟩) (HBQ.out.block _ HSA.out)).trans b1
                clear b0 b1 b2 b3 b4 b5
                have hcell := Lib.cell_of_heap HCQ.out
                have c0 := hcell 0
                have c3 := hcell 3
                have c6 := hcell 6
                have c9 := hcell 9
                clear hcell
                simp at c0 c3 c6 c9
                rcases ht4 with rfl | rfl | rfl | rfl | rfl
                · go_wp2
                  go_quiet (fail)
                  go_wp2
                  go_roundw
                  case rel => exact ⟨1, by omega, rfl, rfl, Lib.hid (below_drewN HBQ.out _)⟩
                  case measure => first | (simp [intOf]; done) | (simp [intOf]; omega)
                · go_wp2
                  go_quiet (fail)
                  go_wp2
                  go_roundw
                  case rel => exact ⟨2, by omega, rfl, rfl, Lib.hid (below_drewN HBQ.out _)⟩
                  case measure => first | (simp [intOf]; done) | (simp [intOf]; omega)
                · go_wp2
                  go_quiet (fail)
                  go_wp2
                  go_roundw
                  case rel => exact ⟨3, by omega, rfl, rfl, Lib.hid (below_drewN HBQ.out _)⟩
                  case measure => first | (simp [intOf]; done) | (simp [intOf]; omega)
                · go_wp2
                  go_quiet (fail)
                  go_wp2
                  go_roundw
                  case rel => exact ⟨4, by omega, rfl, rfl, Lib.hid (below_drewN HBQ.out _)⟩
                  case measure => first | (simp [intOf]; done) | (simp [intOf]; omega)
                · clear c0 c3 c6 c9 q1
                  have HBz := Lib.hid (HBA.out.trans (HBQ.out.mono HBA.out.size))
                  have HBW5 := Lib.hid (HBW.out.trans (HBQ.out.mono HBW.out.size))
                  have HOWx := Lib.hid (own_keep1 HOW.out (fun g hg => (HBz.out.block g (HOW.out.lt g hg).2)))
                  have hown := HOWx.out
                  have hsz3 := HBW5.out.size
                  go_wp2_with (at_builtin; refine wpList_append_own _ rfl _ _ 83 rfl w2.heap.size 5 i0 (.int .u8 0) 1 1 Tryd.underlying83 hi hz0 hz1 hz2 rfl (by decide) _ _ _ rfl (hown.alloc _) ⟨wr.heap.size, 0, none⟩ 1 1 [.int .u8 (faI F 0 4)] rfl rfl ?k1 ?k2 ?k3 ?k4 ?k5 ?_)
                  case k2 => intro u hu; simp at hu; subst hu; rfl
                  case k3 => unfold maxLen; omega
                  case k4 => omega
                  case k5 => simp; omega
                  case k1 =>
                    intro j' u hj'
                    match j', hj' with
                    | 0, hj' => simp at hj'; subst hj'; simp [Addr.add]
                  · intro v' w9 hown' hgrow _
                    have HL9 : Hid (w9.ownsRow w2.heap.size 5 1 v' (j + 1) (u8s ln)) := Lib.hid (by
                      have e9 : u8s ln = u8s l ++ [.int .u8 (faI F 0 4)] := by
                        unfold u8s
                        rw [HE.out, List.map_append]
                        rfl
                      rw [e9]; exact hown')
                    have HB9 : Hid (Below w2.heap.size w2 w9) := Lib.hid ((HBW5.out.alloc (by omega) _).grown hgrow (by simp; omega) (fun g hg => (HOWx.out.lt g hg).1))
                    clear hown' hgrow hown
                    go_wp2
                    go_roundw
                    case rel => exact ⟨j + 1, by omega, by go_num, by rw [HLN.out]; exact HL9, HB9⟩
                    case measure => first | (simp [intOf]; done) | (simp [intOf]; omega)
          · as_aux_lemma =>
              have HE : Hid (ln = l ++ [faI F 1 4]) := Lib.hid (by rw [HEXT.out]; rfl)
              have HBX := Lib.hid (Box.made wr ⟨3, 1, e, g, x, yy⟩ 62)
              have HBA : Hid (Below wr.heap.size wr (wr.alloc (.cells #[.int .i64 3, .int .i64 1, .int .i64 e, .int .i64 g, .int .i64 x, .int .i64 yy] 62))) := Lib.hid ((Below.refl _ wr).alloc (Nat.le_refl _) _)
              have HSA : Hid (wr.heap.size < (wr.alloc (.cells #[.int .i64 3, .int .i64 1, .int .i64 e, .int .i64 g, .int .i64 x, .int .i64 yy] 62)).heap.size) := Lib.hid (by simp)
              go_wp2_with fail
              refine (HUX.out _).mono ?_
              rintro r w4 ⟨rfl, rfl⟩
              generalize wr.alloc (.cells #[.int .i64 3, .int .i64 1, .int .i64 e, .int .i64 g, .int .i64 x, .int .i64 yy] 62) = w3 at *
              have HBW := Lib.hid (HBI.out.trans (HBA.out.mono hsz))
              have HCM := Lib.hid ((HBW.out.block _ HS2.out).trans HC2.out)
              clear m0 m1 m2 m3 m4 m5 l1 l2 l3 l4 l5
              obtain ⟨b0, b1, b2, b3, b4, b5, _⟩ := HBX.out
              go_wp2_with fail
              refine (HUY.out _).mono ?_
              rintro r w4 ⟨rfl, rfl⟩
              generalize wr = wo at *
              go_wp2
              go_loopw [11, 12, 44] (fun v _ k wr => ∃ t : Nat, t ≤ 4 ∧ k = .int .i64 t ∧ v = .int .u8 (faI F 1 t) ∧ Hid (Below w3.heap.size w3 wr)) (fun _ _ k _ => 4 - (intOf k).toNat)
              case atStart => exact ⟨0, by omega, rfl, rfl, Lib.hid (Below.refl _ _)⟩
              case round =>
                obtain ⟨t, ht, rfl, rfl, HBQ⟩ := hrel
                have ht4 : t = 0 ∨ t = 1 ∨ t = 2 ∨ t = 3 ∨ t = 4 := by omega
                clear ht
                have HCQ := Lib.hid ((HBQ.out.block _ (Nat.lt_of_lt_of_le HS2.out HBW.out.size)).trans HCM.out)
                have q1 := (World.cell?_of_block (a := ⟨wo.heap.size, 1, none⟩) (HBQ.out.block _ HSA.out)).trans b1
                clear b0 b1 b2 b3 b4 b5
                have hcell := Lib.cell_of_heap HCQ.out
                have c0 := hcell 0
                have c3 := hcell 3
                have c6 := hcell 6
                have c9 := hcell 9
                clear hcell
                simp at c0 c3 c6 c9
                rcases ht4 with rfl | rfl | rfl | rfl | rfl
                · go_wp2
                  go_quiet (fail)
                  go_wp2
                  go_roundw
                  case rel => exact ⟨1, by omega, rfl, rfl, Lib.hid (below_drewN HBQ.out _)⟩
                  case measure => first | (simp [intOf]; done) | (simp [intOf]; omega)
                · go_wp2
                  go_quiet (fail)
                  go_wp2
                  go_roundw
                  case rel => exact ⟨2, by omega, rfl, rfl, Lib.hid (below_drewN HBQ.out _)⟩
                  case measure => first | (simp [intOf]; done) | (simp [intOf]; omega)
                · go_wp2
                  go_quiet (fail)
                  go_wp2
                  go_roundw
                  case rel => exact ⟨3, by omega, rfl, rfl, Lib.hid (below_drewN HBQ.out _)⟩
                  case measure => first | (simp [intOf]; done) | (simp [intOf]; omega)
                · go_wp2
                  go_quiet (fail)
                  go_wp2
                  go_roundw
                  case rel => exact ⟨4, by omega, rfl, rfl, Lib.hid (below_drewN HBQ.out _)⟩
                  case measure => first | (simp [intOf]; done) | (simp [intOf]; omega)
                · clear c0 c3 c6 c9 q1
                  have HBz := Lib.hid (HBA.out.trans (HBQ.out.mono HBA.out.size))
                  have HBW5 := Lib.hid (HBW.out.trans (HBQ.out.mono HBW.out.size))
                  have HOWx := Lib.hid (own_keep1 HOW.out (fun g hg => (HBz.out.block g (HOW.out.lt g hg).2)))
                  have hown := HOWx.out
                  have hsz3 := HBW5.out.size
                  go_wp2_with (at_builtin; refine wpList_append_own _ rfl _ _ 83 rfl w2.heap.size 5 i0 (.int .u8 0) 1 1 Tryd.underlying83 hi hz0 hz1 hz2 rfl (by decide) _ _ _ rfl (hown.alloc _) ⟨wr.heap.size, 0, none⟩ 1 1 [.int .u8 (faI F 1 4)] rfl rfl ?k1 ?k2 ?k3 ?k4 ?k5 ?_)
                  case k2 => intro u hu; simp at hu; subst hu; rfl
                  case k3 => unfold maxLen; omega
                  case k4 => omega
                  case k5 => simp; omega
                  case k1 =>
                    intro j' u hj'
                    match j', hj' with
                    | 0, hj' => simp at hj'; subst hj'; simp [Addr.add]
                  · intro v' w9 hown' hgrow _
                    have HL9 : Hid (w9.ownsRow w2.heap.size 5 1 v' (j + 1) (u8s ln)) := Lib.hid (by
                      have e9 : u8s ln = u8s l ++ [.int .u8 (faI F 1 4)] := by
                        unfold u8s
                        rw [HE.out, List.map_append]
                        rfl
                      rw [e9]; exact hown')
                    have HB9 : Hid (Below w2.heap.size w2 w9) := Lib.hid ((HBW5.out.alloc (by omega) _).grown hgrow (by simp; omega) (fun g hg => (HOWx.out.lt g hg).1))
                    clear hown' hgrow hown
                    go_wp2
                    go_roundw
                    case rel => exact ⟨j + 1, by omega, by go_num, by rw [HLN.out]; exact HL9, HB9⟩
                    case measure => first | (simp [intOf]; done) | (simp [intOf]; omega)
          · as_aux_lemma =>
              have HE : Hid (ln = l ++ [faI F 2 4]) := Lib.hid (by rw [HEXT.out]; rfl)
              have HBX := Lib.hid (Box.made wr ⟨3, 2, e, g, x, yy⟩ 62)
              have HBA : Hid (Below wr.heap.size wr (wr.alloc (.cells #[.int .i64 3, .int .i64 2, .int .i64 e, .int .i64 g, .int .i64 x, .int .i64 yy] 62))) := Lib.hid ((Below.refl _ wr).alloc (Nat.le_refl _) _)
              have HSA : Hid (wr.heap.size < (wr.alloc (.cells #[.int .i64 3, .int .i64 2, .int .i64 e, .int .i64 g, .int .i64 x, .int .i64 yy] 62)).heap.size) := Lib.hid (by simp)
              go_wp2_with fail
              refine (HUX.out _).mono ?_
              rintro r w4 ⟨rfl, rfl⟩
              generalize wr.alloc (.cells #[.int .i64 3, .int .i64 2, .int .i64 e, .int .i64 g, .int .i64 x, .int .i64 yy] 62) = w3 at *
              have HBW := Lib.hid (HBI.out.trans (HBA.out.mono hsz))
              have HCM := Lib.hid ((HBW.out.block _ HS2.out).trans HC2.out)
              clear m0 m1 m2 m3 m4 m5 l1 l2 l3 l4 l5
              obtain ⟨b0, b1, b2, b3, b4, b5, _⟩ := HBX.out
              go_wp2_with fail
              refine (HUY.out _).mono ?_
              rintro r w4 ⟨rfl, rfl⟩
              generalize wr = wo at *
              go_wp2
              go_loopw [11, 12, 44] (fun v _ k wr => ∃ t : Nat, t ≤ 4 ∧ k = .int .i64 t ∧ v = .int .u8 (faI F 2 t) ∧ Hid (Below w3.heap.size w3 wr)) (fun _ _ k _ => 4 - (intOf k).toNat)
              case atStart => exact ⟨0, by omega, rfl, rfl, Lib.hid (Below.refl _ _)⟩
              case round =>
                obtain ⟨t, ht, rfl, rfl, HBQ⟩ := hrel
                have ht4 : t = 0 ∨ t = 1 ∨ t = 2 ∨ t = 3 ∨ t = 4 := by omega
                clear ht
                have HCQ := Lib.hid ((HBQ.out.block _ (Nat.lt_of_lt_of_le HS2.out HBW.out.size)).trans HCM.out)
                have q1 := (World.cell?_of_block (a := ⟨wo.heap.size, 1, none⟩) (HBQ.out.block _ HSA.out)).trans b1
                clear b0 b1 b2 b3 b4 b5
                have hcell := Lib.cell_of_heap HCQ.out
                have c0 := hcell 0
                have c3 := hcell 3
                have c6 := hcell 6
                have c9 := hcell 9
                clear hcell
                simp at c0 c3 c6 c9
                rcases ht4 with rfl | rfl | rfl | rfl | rfl
                · go_wp2
                  go_quiet (fail)
                  go_wp2
                  go_roundw
                  case rel => exact ⟨1, by omega, rfl, rfl, Lib.hid (below_drewN HBQ.out _)⟩
                  case measure => first | (simp [intOf]; done) | (simp [intOf]; omega)
                · go_wp2
                  go_quiet (fail)
                  go_wp2
                  go_roundw
                  case rel => exact ⟨2, by omega, rfl, rfl, Lib.hid (below_drewN HBQ.out _)⟩
                  case measure => first | (simp [intOf]; done) | (simp [intOf]; omega)
                · go_wp2
                  go_quiet (fail)
                  go_wp2
                  go_roundw
                  case rel => exact ⟨3, by omega, rfl, rfl, Lib.hid (below_drewN HBQ.out _)⟩
                  case measure => first | (simp [intOf]; done) | (simp [intOf]; omega)
                · go_wp2
                  go_quiet (fail)
                  go_wp2
                  go_roundw
                  case rel => exact ⟨4, by omega, rfl, rfl, Lib.hid (below_drewN HBQ.out _)⟩
                  case measure => first | (simp [intOf]; done) | (simp [intOf]; omega)
                · clear c0 c3 c6 c9 q1
                  have HBz := Lib.hid (HBA.out.trans (HBQ.out.mono HBA.out.size))
                  have HBW5 := Lib.hid (HBW.out.trans (HBQ.out.mono HBW.out.size))
                  have HOWx := Lib.hid (own_keep1 HOW.out (fun g hg => (HBz.out.block g (HOW.out.lt g hg).2)))
                  have hown := HOWx.out
                  have hsz3 := HBW5.out.size
                  go_wp2_with (at_builtin; refine wpList_append_own _ rfl _ _ 83 rfl w2.heap.size 5 i0 (.int .u8 0) 1 1 Tryd.underlying83 hi hz0 hz1 hz2 rfl (by decide) _ _ _ rfl (hown.alloc _) ⟨wr.heap.size, 0, none⟩ 1 1 [.int .u8 (faI F 2 4)] rfl rfl ?k1 ?k2 ?k3 ?k4 ?k5 ?_)
                  case k2 => intro u hu; simp at hu; subst hu; rfl
                  case k3 => unfold maxLen; omega
                  case k4 => omega
                  case k5 => simp; omega
                  case k1 =>
                    intro j' u hj'
                    match j', hj' with
                    | 0, hj' => simp at hj'; subst hj'; simp [Addr.add]
                  · intro v' w9 hown' hgrow _
                    have HL9 : Hid (w9.ownsRow w2.heap.size 5 1 v' (j + 1) (u8s ln)) := Lib.hid (by
                      have e9 : u8s ln = u8s l ++ [.int .u8 (faI F 2 4)] := by
                        unfold u8s
                        rw [HE.out, List.map_append]
                        rfl
                      rw [e9]; exact hown')
                    have HB9 : Hid (Below w2.heap.size w2 w9) := Lib.hid ((HBW5.out.alloc (by omega) _).grown hgrow (by simp; omega) (fun g hg => (HOWx.out.lt g hg).1))
                    clear hown' hgrow hown
                    go_wp2
                    go_roundw
                    case rel => exact ⟨j + 1, by omega, by go_num, by rw [HLN.out]; exact HL9, HB9⟩
                    case measure => first | (simp [intOf]; done) | (simp [intOf]; omega)
          · as_aux_lemma =>
              have HE : Hid (ln = l ++ [faI F 3 4]) := Lib.hid (by rw [HEXT.out]; rfl)
              have HBX := Lib.hid (Box.made wr ⟨3, 3, e, g, x, yy⟩ 62)
              have HBA : Hid (Below wr.heap.size wr (wr.alloc (.cells #[.int .i64 3, .int .i64 3, .int .i64 e, .int .i64 g, .int .i64 x, .int .i64 yy] 62))) := Lib.hid ((Below.refl _ wr).alloc (Nat.le_refl _) _)
              have HSA : Hid (wr.heap.size < (wr.alloc (.cells #[.int .i64 3, .int .i64 3, .int .i64 e, .int .i64 g, .int .i64 x, .int .i64 yy] 62)).heap.size) := Lib.hid (by simp)
              go_wp2_with fail
              refine (HUX.out _).mono ?_
              rintro r w4 ⟨rfl, rfl⟩
              generalize wr.alloc (.cells #[.int .i64 3, .int .i64 3, .int .i64 e, .int .i64 g, .int .i64 x, .int .i64 yy] 62) = w3 at *
              have HBW := Lib.hid (HBI.out.trans (HBA.out.mono hsz))
              have HCM := Lib.hid ((HBW.out.block _ HS2.out).trans HC2.out)
              clear m0 m1 m2 m3 m4 m5 l1 l2 l3 l4 l5
              obtain ⟨b0, b1, b2, b3, b4, b5, _⟩ := HBX.out
              go_wp2_with fail
              refine (HUY.out _).mono ?_
              rintro r w4 ⟨rfl, rfl⟩
              generalize wr = wo at *
              go_wp2
              go_loopw [11, 12, 44] (fun v _ k wr => ∃ t : Nat, t ≤ 4 ∧ k = .int .i64 t ∧ v = .int .u8 (faI F 3 t) ∧ Hid (Below w3.heap.size w3 wr)) (fun _ _ k _ => 4 - (intOf k).toNat)
              case atStart => exact ⟨0, by omega, rfl, rfl, Lib.hid (Below.refl _ _)⟩
              case round =>
                obtain ⟨t, ht, rfl, rfl, HBQ⟩ := hrel
                have ht4 : t = 0 ∨ t = 1 ∨ t = 2 ∨ t = 3 ∨ t = 4 := by omega
                clear ht
                have HCQ := Lib.hid ((HBQ.out.block _ (Nat.lt_of_lt_of_le HS2.out HBW.out.size)).trans HCM.out)
                have q1 := (World.cell?_of_block (a := ⟨wo.heap.size, 1, none⟩) (HBQ.out.block _ HSA.out)).trans b1
                clear b0 b1 b2 b3 b4 b5
                have hcell := Lib.cell_of_heap HCQ.out
                have c0 := hcell 0
                have c3 := hcell 3
                have c6 := hcell 6
                have c9 := hcell 9
                clear hcell
                simp at c0 c3 c6 c9
                rcases ht4 with rfl | rfl | rfl | rfl | rfl
                · go_wp2
                  go_quiet (fail)
                  go_wp2
                  go_roundw
                  case rel => exact ⟨1, by omega, rfl, rfl, Lib.hid (below_drewN HBQ.out _)⟩
                  case measure => first | (simp [intOf]; done) | (simp [intOf]; omega)
                · go_wp2
                  go_quiet (fail)
                  go_wp2
                  go_roundw
                  case rel => exact ⟨2, by omega, rfl, rfl, Lib.hid (below_drewN HBQ.out _)⟩
                  case measure => first | (simp [intOf]; done) | (simp [intOf]; omega)
                · go_wp2
                  go_quiet (fail)
                  go_wp2
                  go_roundw
                  case rel => exact ⟨3, by omega, rfl, rfl, Lib.hid (below_drewN HBQ.out _)⟩
                  case measure => first | (simp [intOf]; done) | (simp [intOf]; omega)
                · go_wp2
                  go_quiet (fail)
                  go_wp2
                  go_roundw
                  case rel => exact ⟨4, by omega, rfl, rfl, Lib.hid (below_drewN HBQ.out _)⟩
                  case measure => first | (simp [intOf]; done) | (simp [intOf]; omega)
                · clear c0 c3 c6 c9 q1
                  have HBz := Lib.hid (HBA.out.trans (HBQ.out.mono HBA.out.size))
                  have HBW5 := Lib.hid (HBW.out.trans (HBQ.out.mono HBW.out.size))
                  have HOWx := Lib.hid (own_keep1 HOW.out (fun g hg => (HBz.out.block g (HOW.out.lt g hg).2)))
                  have hown := HOWx.out
                  have hsz3 := HBW5.out.size
                  go_wp2_with (at_builtin; refine wpList_append_own _ rfl _ _ 83 rfl w2.heap.size 5 i0 (.int .u8 0) 1 1 Tryd.underlying83 hi hz0 hz1 hz2 rfl (by decide) _ _ _ rfl (hown.alloc _) ⟨wr.heap.size, 0, none⟩ 1 1 [.int .u8 (faI F 3 4)] rfl rfl ?k1 ?k2 ?k3 ?k4 ?k5 ?_)
                  case k2 => intro u hu; simp at hu; subst hu; rfl
                  case k3 => unfold maxLen; omega
                  case k4 => omega
                  case k5 => simp; omega
                  case k1 =>
                    intro j' u hj'
                    match j', hj' with
                    | 0, hj' => simp at hj'; subst hj'; simp [Addr.add]
                  · intro v' w9 hown' hgrow _
                    have HL9 : Hid (w9.ownsRow w2.heap.size 5 1 v' (j + 1) (u8s ln)) := Lib.hid (by
                      have e9 : u8s ln = u8s l ++ [.int .u8 (faI F 3 4)] := by
                        unfold u8s
                        rw [HE.out, List.map_append]
                        rfl
                      rw [e9]; exact hown')
                    have HB9 : Hid (Below w2.heap.size w2 w9) := Lib.hid ((HBW5.out.alloc (by omega) _).grown hgrow (by simp; omega) (fun g hg => (HOWx.out.lt g hg).1))
                    clear hown' hgrow hown
                    go_wp2
                    go_roundw
                    case rel => exact ⟨j + 1, by omega, by go_num, by rw [HLN.out]; exact HL9, HB9⟩
                    case measure => first | (simp [intOf]; done) | (simp [intOf]; omega)
          · as_aux_lemma =>
              have HE : Hid (ln = l ++ [faI F 4 4]) := Lib.hid (by rw [HEXT.out]; rfl)
              have HBX := Lib.hid (Box.made wr ⟨3, 4, e, g, x, yy⟩ 62)
              have HBA : Hid (Below wr.heap.size wr (wr.alloc (.cells #[.int .i64 3, .int .i64 4, .int .i64 e, .int .i64 g, .int .i64 x, .int .i64 yy] 62))) := Lib.hid ((Below.refl _ wr).alloc (Nat.le_refl _) _)
              have HSA : Hid (wr.heap.size < (wr.alloc (.cells #[.int .i64 3, .int .i64 4, .int .i64 e, .int .i64 g, .int .i64 x, .int .i64 yy] 62)).heap.size) := Lib.hid (by simp)
              go_wp2_with fail
              refine (HUX.out _).mono ?_
              rintro r w4 ⟨rfl, rfl⟩
              generalize wr.alloc (.cells #[.int .i64 3, .int .i64 4, .int .i64 e, .int .i64 g, .int .i64 x, .int .i64 yy] 62) = w3 at *
              have HBW := Lib.hid (HBI.out.trans (HBA.out.mono hsz))
              have HCM := Lib.hid ((HBW.out.block _ HS2.out).trans HC2.out)
              clear m0 m1 m2 m3 m4 m5 l1 l2 l3 l4 l5
              obtain ⟨b0, b1, b2, b3, b4, b5, _⟩ := HBX.out
              go_wp2_with fail
              refine (HUY.out _).mono ?_
              rintro r w4 ⟨rfl, rfl⟩
              generalize wr = wo at *
              go_wp2
              go_loopw [11, 12, 44] (fun v _ k wr => ∃ t : Nat, t ≤ 4 ∧ k = .int .i64 t ∧ v = .int .u8 (faI F 4 t) ∧ Hid (Below w3.heap.size w3 wr)) (fun _ _ k _ => 4 - (intOf k).toNat)
              case atStart => exact ⟨0, by omega, rfl, rfl, Lib.hid (Below.refl _ _)⟩
              case round =>
                obtain ⟨t, ht, rfl, rfl, HBQ⟩ := hrel
                have ht4 : t = 0 ∨ t = 1 ∨ t = 2 ∨ t = 3 ∨ t = 4 := by omega
                clear ht
                have HCQ := Lib.hid ((HBQ.out.block _ (Nat.lt_of_lt_of_le HS2.out HBW.out.size)).trans HCM.out)
                have q1 := (World.cell?_of_block (a := ⟨wo.heap.size, 1, none⟩) (HBQ.out.block _ HSA.out)).trans b1
                clear b0 b1 b2 b3 b4 b5
                have hcell := Lib.cell_of_heap HCQ.out
                have c0 := hcell 0
                have c3 := hcell 3
                have c6 := hcell 6
                have c9 := hcell 9
                clear hcell
                simp at c0 c3 c6 c9
                rcases ht4 with rfl | rfl | rfl | rfl | rfl
                · go_wp2
                  go_quiet (fail)
                  go_wp2
                  go_roundw
                  case rel => exact ⟨1, by omega, rfl, rfl, Lib.hid (below_drewN HBQ.out _)⟩
                  case measure => first | (simp [intOf]; done) | (simp [intOf]; omega)
                · go_wp2
                  go_quiet (fail)
                  go_wp2
                  go_roundw
                  case rel => exact ⟨2, by omega, rfl, rfl, Lib.hid (below_drewN HBQ.out _)⟩
                  case measure => first | (simp [intOf]; done) | (simp [intOf]; omega)
                · go_wp2
                  go_quiet (fail)
                  go_wp2
                  go_roundw
                  case rel => exact ⟨3, by omega, rfl, rfl, Lib.hid (below_drewN HBQ.out _)⟩
                  case measure => first | (simp [intOf]; done) | (simp [intOf]; omega)
                · go_wp2
                  go_quiet (fail)
                  go_wp2
                  go_roundw
                  case rel => exact ⟨4, by omega, rfl, rfl, Lib.hid (below_drewN HBQ.out _)⟩
                  case measure => first | (simp [intOf]; done) | (simp [intOf]; omega)
                · clear c0 c3 c6 c9 q1
                  have HBz := Lib.hid (HBA.out.trans (HBQ.out.mono HBA.out.size))
                  have HBW5 := Lib.hid (HBW.out.trans (HBQ.out.mono HBW.out.size))
                  have HOWx := Lib.hid (own_keep1 HOW.out (fun g hg => (HBz.out.block g (HOW.out.lt g hg).2)))
                  have hown := HOWx.out
                  have hsz3 := HBW5.out.size
                  go_wp2_with (at_builtin; refine wpList_append_own _ rfl _ _ 83 rfl w2.heap.size 5 i0 (.int .u8 0) 1 1 Tryd.underlying83 hi hz0 hz1 hz2 rfl (by decide) _ _ _ rfl (hown.alloc _) ⟨wr.heap.size, 0, none⟩ 1 1 [.int .u8 (faI F 4 4)] rfl rfl ?k1 ?k2 ?k3 ?k4 ?k5 ?_)
                  case k2 => intro u hu; simp at hu; subst hu; rfl
                  case k3 => unfold maxLen; omega
                  case k4 => omega
                  case k5 => simp; omega
                  case k1 =>
                    intro j' u hj'
                    match j', hj' with
                    | 0, hj' => simp at hj'; subst hj'; simp [Addr.add]
                  · intro v' w9 hown' hgrow _
                    have HL9 : Hid (w9.ownsRow w2.heap.size 5 1 v' (j + 1) (u8s ln)) := Lib.hid (by
                      have e9 : u8s ln = u8s l ++ [.int .u8 (faI F 4 4)] := by
                        unfold u8s
                        rw [HE.out, List.map_append]
                        rfl
                      rw [e9]; exact hown')
                    have HB9 : Hid (Below w2.heap.size w2 w9) := Lib.hid ((HBW5.out.alloc (by omega) _).grown hgrow (by simp; omega) (fun g hg => (HOWx.out.lt g hg).1))
                    clear hown' hgrow hown
                    go_wp2
                    go_roundw
                    case rel => exact ⟨j + 1, by omega, by go_num, by rw [HLN.out]; exact HL9, HB9⟩
                    case measure => first | (simp [intOf]; done) | (simp [intOf]; omega)
          · as_aux_lemma =>
              have HE : Hid (ln = l ++ [faI F 5 4]) := Lib.hid (by rw [HEXT.out]; rfl)
              have HBX := Lib.hid (Box.made wr ⟨3, 5, e, g, x, yy⟩ 62)
              have HBA : Hid (Below wr.heap.size wr (wr.alloc (.cells #[.int .i64 3, .int .i64 5, .int .i64 e, .int .i64 g, .int .i64 x, .int .i64 yy] 62))) := Lib.hid ((Below.refl _ wr).alloc (Nat.le_refl _) _)
              have HSA : Hid (wr.heap.size < (wr.alloc (.cells #[.int .i64 3, .int .i64 5, .int .i64 e, .int .i64 g, .int .i64 x, .int .i64 yy] 62)).heap.size) := Lib.hid (by simp)
              go_wp2_with fail
              refine (HUX.out _).mono ?_
              rintro r w4 ⟨rfl, rfl⟩
              generalize wr.alloc (.cells #[.int .i64 3, .int .i64 5, .int .i64 e, .int .i64 g, .int .i64 x, .int .i64 yy] 62) = w3 at *
              have HBW := Lib.hid (HBI.out.trans (HBA.out.mono hsz))
              have HCM := Lib.hid ((HBW.out.block _ HS2.out).trans HC2.out)
              clear m0 m1 m2 m3 m4 m5 l1 l2 l3 l4 l5
              obtain ⟨b0, b1, b2, b3, b4, b5, _⟩ := HBX.out
              go_wp2_with fail
              refine (HUY.out _).mono ?_
              rintro r w4 ⟨rfl, rfl⟩
              generalize wr = wo at *
              go_wp2
              go_loopw [11, 12, 44] (fun v _ k wr => ∃ t : Nat, t ≤ 4 ∧ k = .int .i64 t ∧ v = .int .u8 (faI F 5 t) ∧ Hid (Below w3.heap.size w3 wr)) (fun _ _ k _ => 4 - (intOf k).toNat)
              case atStart => exact ⟨0, by omega, rfl, rfl, Lib.hid (Below.refl _ _)⟩
              case round =>
                obtain ⟨t, ht, rfl, rfl, HBQ⟩ := hrel
                have ht4 : t = 0 ∨ t = 1 ∨ t = 2 ∨ t = 3 ∨ t = 4 := by omega
                clear ht
                have HCQ := Lib.hid ((HBQ.out.block _ (Nat.lt_of_lt_of_le HS2.out HBW.out.size)).trans HCM.out)
                have q1 := (World.cell?_of_block (a := ⟨wo.heap.size, 1, none⟩) (HBQ.out.block _ HSA.out)).trans b1
                clear b0 b1 b2 b3 b4 b5
                have hcell := Lib.cell_of_heap HCQ.out
                have c0 := hcell 0
                have c3 := hcell 3
                have c6 := hcell 6
                have c9 := hcell 9
                clear hcell
                simp at c0 c3 c6 c9
                rcases ht4 with rfl | rfl | rfl | rfl | rfl
                · go_wp2
                  go_quiet (fail)
                  go_wp2
                  go_roundw
                  case rel => exact ⟨1, by omega, rfl, rfl, Lib.hid (below_drewN HBQ.out _)⟩
                  case measure => first | (simp [intOf]; done) | (simp [intOf]; omega)
                · go_wp2
                  go_quiet (fail)
                  go_wp2
                  go_roundw
                  case rel => exact ⟨2, by omega, rfl, rfl, Lib.hid (below_drewN HBQ.out _)⟩
                  case measure => first | (simp [intOf]; done) | (simp [intOf]; omega)
                · go_wp2
                  go_quiet (fail)
                  go_wp2
                  go_roundw
                  case rel => exact ⟨3, by omega, rfl, rfl, Lib.hid (below_drewN HBQ.out _)⟩
                  case measure => first | (simp [intOf]; done) | (simp [intOf]; omega)
                · go_wp2
                  go_quiet (fail)
                  go_wp2
                  go_roundw
                  case rel => exact ⟨4, by omega, rfl, rfl, Lib.hid (below_drewN HBQ.out _)⟩
                  case measure => first | (simp [intOf]; done) | (simp [intOf]; omega)
                · clear c0 c3 c6 c9 q1
                  have HBz := Lib.hid (HBA.out.trans (HBQ.out.mono HBA.out.size))
                  have HBW5 := Lib.hid (HBW.out.trans (HBQ.out.mono HBW.out.size))
                  have HOWx := Lib.hid (own_keep1 HOW.out (fun g hg => (HBz.out.block g (HOW.out.lt g hg).2)))
                  have hown := HOWx.out
                  have hsz3 := HBW5.out.size
                  go_wp2_with (at_builtin; refine wpList_append_own _ rfl _ _ 83 rfl w2.heap.size 5 i0 (.int .u8 0) 1 1 Tryd.underlying83 hi hz0 hz1 hz2 rfl (by decide) _ _ _ rfl (hown.alloc _) ⟨wr.heap.size, 0, none⟩ 1 1 [.int .u8 (faI F 5 4)] rfl rfl ?k1 ?k2 ?k3 ?k4 ?k5 ?_)
                  case k2 => intro u hu; simp at hu; subst hu; rfl
                  case k3 => unfold maxLen; omega
                  case k4 => omega
                  case k5 => simp; omega
                  case k1 =>
                    intro j' u hj'
                    match j', hj' with
                    | 0, hj' => simp at hj'; subst hj'; simp [Addr.add]
                  · intro v' w9 hown' hgrow _
                    have HL9 : Hid (w9.ownsRow w2.heap.size 5 1 v' (j + 1) (u8s ln)) := Lib.hid (by
                      have e9 : u8s ln = u8s l ++ [.int .u8 (faI F 5 4)] := by
                        unfold u8s
                        rw [HE.out, List.map_append]
                        rfl
                      rw [e9]; exact hown')
                    have HB9 : Hid (Below w2.heap.size w2 w9) := Lib.hid ((HBW5.out.alloc (by omega) _).grown hgrow (by simp; omega) (fun g hg => (HOWx.out.lt g hg).1))
                    clear hown' hgrow hown
                    go_wp2
                    go_roundw
                    case rel => exact ⟨j + 1, by omega, by go_num, by rw [HLN.out]; exact HL9, HB9⟩
                    case measure => first | (simp [intOf]; done) | (simp [intOf]; omega)
          · as_aux_lemma =>
              have HE : Hid (ln = l ++ [faI F 6 4]) := Lib.hid (by rw [HEXT.out]; rfl)
              have HBX := Lib.hid (Box.made wr ⟨3, 6, e, g, x, yy⟩ 62)
              have HBA : Hid (Below wr.heap.size wr (wr.alloc (.cells #[.int .i64 3, .int .i64 6, .int .i64 e, .int .i64 g, .int .i64 x, .int .i64 yy] 62))) := Lib.hid ((Below.refl _ wr).alloc (Nat.le_refl _) _)
              have HSA : Hid (wr.heap.size < (wr.alloc (.cells #[.int .i64 3, .int .i64 6, .int .i64 e, .int .i64 g, .int .i64 x, .int .i64 yy] 62)).heap.size) := Lib.hid (by simp)
              go_wp2_with fail
              refine (HUX.out _).mono ?_
              rintro r w4 ⟨rfl, rfl⟩
              generalize wr.alloc (.cells #[.int .i64 3, .int .i64 6, .int .i64 e, .int .i64 g, .int .i64 x, .int .i64 yy] 62) = w3 at *
              have HBW := Lib.hid (HBI.out.trans (HBA.out.mono hsz))
              have HCM := Lib.hid ((HBW.out.block _ HS2.out).trans HC2.out)
              clear m0 m1 m2 m3 m4 m5 l1 l2 l3 l4 l5
              obtain ⟨b0, b1, b2, b3, b4, b5, _⟩ := HBX.out
              go_wp2_with fail
              refine (HUY.out _).mono ?_
              rintro r w4 ⟨rfl, rfl⟩
              generalize wr = wo at *
              go_wp2
              go_loopw [11, 12, 44] (fun v _ k wr => ∃ t : Nat, t ≤ 4 ∧ k = .int .i64 t ∧ v = .int .u8 (faI F 6 t) ∧ Hid (Below w3.heap.size w3 wr)) (fun _ _ k _ => 4 - (intOf k).toNat)
              case atStart => exact ⟨0, by omega, rfl, rfl, Lib.hid (Below.refl _ _)⟩
              case round =>
                obtain ⟨t, ht, rfl, rfl, HBQ⟩ := hrel
                have ht4 : t = 0 ∨ t = 1 ∨ t = 2 ∨ t = 3 ∨ t = 4 := by omega
                clear ht
                have HCQ := Lib.hid ((HBQ.out.block _ (Nat.lt_of_lt_of_le HS2.out HBW.out.size)).trans HCM.out)
                have q1 := (World.cell?_of_block (a := ⟨wo.heap.size, 1, none⟩) (HBQ.out.block _ HSA.out)).trans b1
                clear b0 b1 b2 b3 b4 b5
                have hcell := Lib.cell_of_heap HCQ.out
                have c0 := hcell 0
                have c3 := hcell 3
                have c6 := hcell 6
                have c9 := hcell 9
                clear hcell
                simp at c0 c3 c6 c9
                rcases ht4 with rfl | rfl | rfl | rfl | rfl
                · go_wp2
                  go_quiet (fail)
                  go_wp2
                  go_roundw
                  case rel => exact ⟨1, by omega, rfl, rfl, Lib.hid (below_drewN HBQ.out _)⟩
                  case measure => first | (simp [intOf]; done) | (simp [intOf]; omega)
                · go_wp2
                  go_quiet (fail)
                  go_wp2
                  go_roundw
                  case rel => exact ⟨2, by omega, rfl, rfl, Lib.hid (below_drewN HBQ.out _)⟩
                  case measure => first | (simp [intOf]; done) | (simp [intOf]; omega)
                · go_wp2
                  go_quiet (fail)
                  go_wp2
                  go_roundw
                  case rel => exact ⟨3, by omega, rfl, rfl, Lib.hid (below_drewN HBQ.out _)⟩
                  case measure => first | (simp [intOf]; done) | (simp [intOf]; omega)
                · go_wp2
                  go_quiet (fail)
                  go_wp2
                  go_roundw
                  case rel => exact ⟨4, by omega, rfl, rfl, Lib.hid (below_drewN HBQ.out _)⟩
                  case measure => first | (simp [intOf]; done) | (simp [intOf]; omega)
                · clear c0 c3 c6 c9 q1
                  have HBz := Lib.hid (HBA.out.trans (HBQ.out.mono HBA.out.size))
                  have HBW5 := Lib.hid (HBW.out.trans (HBQ.out.mono HBW.out.size))
                  have HOWx := Lib.hid (own_keep1 HOW.out (fun g hg => (HBz.out.block g (HOW.out.lt g hg).2)))
                  have hown := HOWx.out
                  have hsz3 := HBW5.out.size
                  go_wp2_with (at_builtin; refine wpList_append_own _ rfl _ _ 83 rfl w2.heap.size 5 i0 (.int .u8 0) 1 1 Tryd.underlying83 hi hz0 hz1 hz2 rfl (by decide) _ _ _ rfl (hown.alloc _) ⟨wr.heap.size, 0, none⟩ 1 1 [.int .u8 (faI F 6 4)] rfl rfl ?k1 ?k2 ?k3 ?k4 ?k5 ?_)
                  case k2 => intro u hu; simp at hu; subst hu; rfl
                  case k3 => unfold maxLen; omega
                  case k4 => omega
                  case k5 => simp; omega
                  case k1 =>
                    intro j' u hj'
                    match j', hj' with
                    | 0, hj' => simp at hj'; subst hj'; simp [Addr.add]
                  · intro v' w9 hown' hgrow _
                    have HL9 : Hid (w9.ownsRow w2.heap.size 5 1 v' (j + 1) (u8s ln)) := Lib.hid (by
                      have e9 : u8s ln = u8s l ++ [.int .u8 (faI F 6 4)] := by
                        unfold u8s
                        rw [HE.out, List.map_append]
                        rfl
                      rw [e9]; exact hown')
                    have HB9 : Hid (Below w2.heap.size w2 w9) := Lib.hid ((HBW5.out.alloc (by omega) _).grown hgrow (by simp; omega) (fun g hg => (HOWx.out.lt g hg).1))
                    clear hown' hgrow hown
                    go_wp2
                    go_roundw
                    case rel => exact ⟨j + 1, by omega, by go_num, by rw [HLN.out]; exact HL9, HB9⟩
                    case measure => first | (simp [intOf]; done) | (simp [intOf]; omega)
          · as_aux_lemma =>
              have HE : Hid (ln = l ++ [faI F 7 4]) := Lib.hid (by rw [HEXT.out]; rfl)
              have HBX := Lib.hid (Box.made wr ⟨3, 7, e, g, x, yy⟩ 62)
              have HBA : Hid (Below wr.heap.size wr (wr.alloc (.cells #[.int .i64 3, .int .i64 7, .int .i64 e, .int .i64 g, .int .i64 x, .int .i64 yy] 62))) := Lib.hid ((Below.refl _ wr).alloc (Nat.le_refl _) _)
              have HSA : Hid (wr.heap.size < (wr.alloc (.cells #[.int .i64 3, .int .i64 7, .int .i64 e, .int .i64 g, .int .i64 x, .int .i64 yy] 62)).heap.size) := Lib.hid (by simp)
              go_wp2_with fail
              refine (HUX.out _).mono ?_
              rintro r w4 ⟨rfl, rfl⟩
              generalize wr.alloc (.cells #[.int .i64 3, .int .i64 7, .int .i64 e, .int .i64 g, .int .i64 x, .int .i64 yy] 62) = w3 at *
              have HBW := Lib.hid (HBI.out.trans (HBA.out.mono hsz))
              have HCM := Lib.hid ((HBW.out.block _ HS2.out).trans HC2.out)
              clear m0 m1 m2 m3 m4 m5 l1 l2 l3 l4 l5
              obtain ⟨b0, b1, b2, b3, b4, b5, _⟩ := HBX.out
              go_wp2_with fail
              refine (HUY.out _).mono ?_
              rintro r w4 ⟨rfl, rfl⟩
              generalize wr = wo at *
              go_wp2
              go_loopw [11, 12, 44] (fun v _ k wr => ∃ t : Nat, t ≤ 4 ∧ k = .int .i64 t ∧ v = .int .u8 (faI F 7 t) ∧ Hid (Below w3.heap.size w3 wr)) (fun _ _ k _ => 4 - (intOf k).toNat)
              case atStart => exact ⟨0, by omega, rfl, rfl, Lib.hid (Below.refl _ _)⟩
              case round =>
                obtain ⟨t, ht, rfl, rfl, HBQ⟩ := hrel
                have ht4 : t = 0 ∨ t = 1 ∨ t = 2 ∨ t = 3 ∨ t = 4 := by omega
                clear ht
                have HCQ := Lib.hid ((HBQ.out.block _ (Nat.lt_of_lt_of_le HS2.out HBW.out.size)).trans HCM.out)
                have q1 := (World.cell?_of_block (a := ⟨wo.heap.size, 1, none⟩) (HBQ.out.block _ HSA.out)).trans b1
                clear b0 b1 b2 b3 b4 b5
                have hcell := Lib.cell_of_heap HCQ.out
                have c0 := hcell 0
                have c3 := hcell 3
                have c6 := hcell 6
                have c9 := hcell 9
                clear hcell
                simp at c0 c3 c6 c9
                rcases ht4 with rfl | rfl | rfl | rfl | rfl
                · go_wp2
                  go_quiet (fail)
                  go_wp2
                  go_roundw
                  case rel => exact ⟨1, by omega, rfl, rfl, Lib.hid (below_drewN HBQ.out _)⟩
                  case measure => first | (simp [intOf]; done) | (simp [intOf]; omega)
                · go_wp2
                  go_quiet (fail)
                  go_wp2
                  go_roundw
                  case rel => exact ⟨2, by omega, rfl, rfl, Lib.hid (below_drewN HBQ.out _)⟩
                  case measure => first | (simp [intOf]; done) | (simp [intOf]; omega)
                · go_wp2
                  go_quiet (fail)
                  go_wp2
                  go_roundw
                  case rel => exact ⟨3, by omega, rfl, rfl, Lib.hid (below_drewN HBQ.out _)⟩
                  case measure => first | (simp [intOf]; done) | (simp [intOf]; omega)
                · go_wp2
                  go_quiet (fail)
                  go_wp2
                  go_roundw
                  case rel => exact ⟨4, by omega, rfl, rfl, Lib.hid (below_drewN HBQ.out _)⟩
                  case measure => first | (simp [intOf]; done) | (simp [intOf]; omega)
                · clear c0 c3 c6 c9 q1
                  have HBz := Lib.hid (HBA.out.trans (HBQ.out.mono HBA.out.size))
                  have HBW5 := Lib.hid (HBW.out.trans (HBQ.out.mono HBW.out.size))
                  have HOWx := Lib.hid (own_keep1 HOW.out (fun g hg => (HBz.out.block g (HOW.out.lt g hg).2)))
                  have hown := HOWx.out
                  have hsz3 := HBW5.out.size
                  go_wp2_with (at_builtin; refine wpList_append_own _ rfl _ _ 83 rfl w2.heap.size 5 i0 (.int .u8 0) 1 1 Tryd.underlying83 hi hz0 hz1 hz2 rfl (by decide) _ _ _ rfl (hown.alloc _) ⟨wr.heap.size, 0, none⟩ 1 1 [.int .u8 (faI F 7 4)] rfl rfl ?k1 ?k2 ?k3 ?k4 ?k5 ?_)
                  case k2 => intro u hu; simp at hu; subst hu; rfl
                  case k3 => unfold maxLen; omega
                  case k4 => omega
                  case k5 => simp; omega
                  case k1 =>
                    intro j' u hj'
                    match j', hj' with
                    | 0, hj' => simp at hj'; subst hj'; simp [Addr.add]
                  · intro v' w9 hown' hgrow _
                    have HL9 : Hid (w9.ownsRow w2.heap.size 5 1 v' (j + 1) (u8s ln)) := Lib.hid (by
                      have e9 : u8s ln = u8s l ++ [.int .u8 (faI F 7 4)] := by
                        unfold u8s
                        rw [HE.out, List.map_append]
                        rfl
                      rw [e9]; exact hown')
                    have HB9 : Hid (Below w2.heap.size w2 w9) := Lib.hid ((HBW5.out.alloc (by omega) _).grown hgrow (by simp; omega) (fun g hg => (HOWx.out.lt g hg).1))
                    clear hown' hgrow hown
                    go_wp2
                    go_roundw
                    case rel => exact ⟨j + 1, by omega, by go_num, by rw [HLN.out]; exact HL9, HB9⟩
                    case measure => first | (simp [intOf]; done) | (simp [intOf]; omega)
      · as_aux_lemma =>
          obtain ⟨kx, hkx⟩ : ∃ k : Nat, x = (k : Int) := ⟨x.toNat, by have := (opsOk_x HOP.out rfl).1; dsimp only at this; omega⟩
          subst hkx
          have hltx : kx < j := by have := (opsOk_x HOP.out rfl).2; dsimp only at this; omega
          have HE : Hid (ln = l ++ [bits .andNot .u8 15 (l.getD kx 0)]) := Lib.hid (by rw [HEXT.out]; rfl)
          have HBX := Lib.hid (Box.made wr ⟨4, i, e, g, (kx : Int), yy⟩ 62)
          have HBA : Hid (Below wr.heap.size wr (wr.alloc (.cells #[.int .i64 4, .int .i64 i, .int .i64 e, .int .i64 g, .int .i64 (kx : Int), .int .i64 yy] 62))) := Lib.hid ((Below.refl _ wr).alloc (Nat.le_refl _) _)
          have HSA : Hid (wr.heap.size < (wr.alloc (.cells #[.int .i64 4, .int .i64 i, .int .i64 e, .int .i64 g, .int .i64 (kx : Int), .int .i64 yy] 62)).heap.size) := Lib.hid (by simp)
          go_wp2_with fail
          refine (HUX.out _).mono ?_
          rintro r w4 ⟨rfl, rfl⟩
          generalize wr.alloc (.cells #[.int .i64 4, .int .i64 i, .int .i64 e, .int .i64 g, .int .i64 (kx : Int), .int .i64 yy] 62) = w3 at *
          have HBW := Lib.hid (HBI.out.trans (HBA.out.mono hsz))
          have HCM := Lib.hid ((HBW.out.block _ HS2.out).trans HC2.out)
          clear m0 m1 m2 m3 m4 m5 l1 l2 l3 l4 l5
          obtain ⟨b0, b1, b2, b3, b4, b5, _⟩ := HBX.out
          obtain ⟨ad, rfl, _, hcx⟩ := (HRU.out w3 HBA.out).u8_at hltx
          generalize l.getD kx 0 = zx at *
          go_wp2_with fail
          refine (HUY.out _).mono ?_
          rintro r w4 ⟨rfl, rfl⟩
          have HBz := Lib.hid HBA.out
          have HOWx := Lib.hid (own_keep1 HOW.out (fun g hg => (HBz.out.block g (HOW.out.lt g hg).2)))
          have hown := HOWx.out
          have hsz3 := HBW.out.size
          go_wp2_with (at_builtin; refine wpList_append_own _ rfl _ _ 83 rfl w2.heap.size 5 i0 (.int .u8 0) 1 1 Tryd.underlying83 hi hz0 hz1 hz2 rfl (by decide) _ _ _ rfl (hown.alloc _) ⟨w3.heap.size, 0, none⟩ 1 1 [.int .u8 (bits .andNot .u8 15 zx)] rfl rfl ?k1 ?k2 ?k3 ?k4 ?k5 ?_)
          case k2 => intro u hu; simp at hu; subst hu; rfl
          case k3 => unfold maxLen; omega
          case k4 => omega
          case k5 => simp; omega
          case k1 =>
            intro j' u hj'
            match j', hj' with
            | 0, hj' => simp at hj'; subst hj'; simp [Addr.add]
          · intro v' w9 hown' hgrow _
            have HL9 : Hid (w9.ownsRow w2.heap.size 5 1 v' (j + 1) (u8s ln)) := Lib.hid (by
              have e9 : u8s ln = u8s l ++ [.int .u8 (bits .andNot .u8 15 zx)] := by
                unfold u8s
                rw [HE.out, List.map_append]
                rfl
              rw [e9]; exact hown')
            have HB9 : Hid (Below w2.heap.size w2 w9) := Lib.hid ((HBW.out.alloc (by omega) _).grown hgrow (by simp; omega) (fun g hg => (HOWx.out.lt g hg).1))
            clear hown' hgrow hown
            go_wp2
            go_roundw
            case rel => exact ⟨j + 1, by omega, by go_num, by rw [HLN.out]; exact HL9, HB9⟩
            case measure => first | (simp [intOf]; done) | (simp [intOf]; omega)
      · as_aux_lemma =>
          obtain ⟨kx, hkx⟩ : ∃ k : Nat, x = (k : Int) := ⟨x.toNat, by have := (opsOk_x HOP.out rfl).1; dsimp only at this; omega⟩
          subst hkx
          have hltx : kx < j := by have := (opsOk_x HOP.out rfl).2; dsimp only at this; omega
          obtain ⟨ky, hky⟩ : ∃ k : Nat, yy = (k : Int) := ⟨yy.toNat, by have := (opsOk_y HOP.out rfl).1; dsimp only at this; omega⟩
          subst hky
          have hlty : ky < j := by have := (opsOk_y HOP.out rfl).2; dsimp only at this; omega
          have HE : Hid (ln = l ++ [bits .and .u8 (l.getD kx 0) (l.getD ky 0)]) := Lib.hid (by rw [HEXT.out]; rfl)
          have HBX := Lib.hid (Box.made wr ⟨5, i, e, g, (kx : Int), (ky : Int)⟩ 62)
          have HBA : Hid (Below wr.heap.size wr (wr.alloc (.cells #[.int .i64 5, .int .i64 i, .int .i64 e, .int .i64 g, .int .i64 (kx : Int), .int .i64 (ky : Int)] 62))) := Lib.hid ((Below.refl _ wr).alloc (Nat.le_refl _) _)
          have HSA : Hid (wr.heap.size < (wr.alloc (.cells #[.int .i64 5, .int .i64 i, .int .i64 e, .int .i64 g, .int .i64 (kx : Int), .int .i64 (ky : Int)] 62)).heap.size) := Lib.hid (by simp)
          go_wp2_with fail
          refine (HUX.out _).mono ?_
          rintro r w4 ⟨rfl, rfl⟩
          generalize wr.alloc (.cells #[.int .i64 5, .int .i64 i, .int .i64 e, .int .i64 g, .int .i64 (kx : Int), .int .i64 (ky : Int)] 62) = w3 at *
          have HBW := Lib.hid (HBI.out.trans (HBA.out.mono hsz))
          have HCM := Lib.hid ((HBW.out.block _ HS2.out).trans HC2.out)
          clear m0 m1 m2 m3 m4 m5 l1 l2 l3 l4 l5
          obtain ⟨b0, b1, b2, b3, b4, b5, _⟩ := HBX.out
          obtain ⟨ad, rfl, _, hcx⟩ := (HRU.out w3 HBA.out).u8_at hltx
          obtain ⟨ad', eay, _, hcy⟩ := (HRU.out w3 HBA.out).u8_at hlty
          obtain rfl : ad = ad' := Option.some.inj eay
          generalize l.getD kx 0 = zx at *
          generalize l.getD ky 0 = zy at *
          go_wp2_with fail
          refine (HUY.out _).mono ?_
          rintro r w4 ⟨rfl, rfl⟩
          have HBz := Lib.hid HBA.out
          have HOWx := Lib.hid (own_keep1 HOW.out (fun g hg => (HBz.out.block g (HOW.out.lt g hg).2)))
          have hown := HOWx.out
          have hsz3 := HBW.out.size
          go_wp2_with (at_builtin; refine wpList_append_own _ rfl _ _ 83 rfl w2.heap.size 5 i0 (.int .u8 0) 1 1 Tryd.underlying83 hi hz0 hz1 hz2 rfl (by decide) _ _ _ rfl (hown.alloc _) ⟨w3.heap.size, 0, none⟩ 1 1 [.int .u8 (bits .and .u8 zx zy)] rfl rfl ?k1 ?k2 ?k3 ?k4 ?k5 ?_)
          case k2 => intro u hu; simp at hu; subst hu; rfl
          case k3 => unfold maxLen; omega
          case k4 => omega
          case k5 => simp; omega
          case k1 =>
            intro j' u hj'
            match j', hj' with
            | 0, hj' => simp at hj'; subst hj'; simp [Addr.add]
          · intro v' w9 hown' hgrow _
            have HL9 : Hid (w9.ownsRow w2.heap.size 5 1 v' (j + 1) (u8s ln)) := Lib.hid (by
              have e9 : u8s ln = u8s l ++ [.int .u8 (bits .and .u8 zx zy)] := by
                unfold u8s
                rw [HE.out, List.map_append]
                rfl
              rw [e9]; exact hown')
            have HB9 : Hid (Below w2.heap.size w2 w9) := Lib.hid ((HBW.out.alloc (by omega) _).grown hgrow (by simp; omega) (fun g hg => (HOWx.out.lt g hg).1))
            clear hown' hgrow hown
            go_wp2
            go_roundw
            case rel => exact ⟨j + 1, by omega, by go_num, by rw [HLN.out]; exact HL9, HB9⟩
            case measure => first | (simp [intOf]; done) | (simp [intOf]; omega)
      · as_aux_lemma =>
          obtain ⟨kx, hkx⟩ : ∃ k : Nat, x = (k : Int) := ⟨x.toNat, by have := (opsOk_x HOP.out rfl).1; dsimp only at this; omega⟩
          subst hkx
          have hltx : kx < j := by have := (opsOk_x HOP.out rfl).2; dsimp only at this; omega
          obtain ⟨ky, hky⟩ : ∃ k : Nat, yy = (k : Int) := ⟨yy.toNat, by have := (opsOk_y HOP.out rfl).1; dsimp only at this; omega⟩
          subst hky
          have hlty : ky < j := by have := (opsOk_y HOP.out rfl).2; dsimp only at this; omega
          have HE : Hid (ln = l ++ [bits .or .u8 (l.getD kx 0) (l.getD ky 0)]) := Lib.hid (by rw [HEXT.out]; rfl)
          have HBX := Lib.hid (Box.made wr ⟨6, i, e, g, (kx : Int), (ky : Int)⟩ 62)
          have HBA : Hid (Below wr.heap.size wr (wr.alloc (.cells #[.int .i64 6, .int .i64 i, .int .i64 e, .int .i64 g, .int .i64 (kx : Int), .int .i64 (ky : Int)] 62))) := Lib.hid ((Below.refl _ wr).alloc (Nat.le_refl _) _)
          have HSA : Hid (wr.heap.size < (wr.alloc (.cells #[.int .i64 6, .int .i64 i, .int .i64 e, .int .i64 g, .int .i64 (kx : Int), .int .i64 (ky : Int)] 62)).heap.size) := Lib.hid (by simp)
          go_wp2_with fail
          refine (HUX.out _).mono ?_
          rintro r w4 ⟨rfl, rfl⟩
          generalize wr.alloc (.cells #[.int .i64 6, .int .i64 i, .int .i64 e, .int .i64 g, .int .i64 (kx : Int), .int .i64 (ky : Int)] 62) = w3 at *
          have HBW := Lib.hid (HBI.out.trans (HBA.out.mono hsz))
          have HCM := Lib.hid ((HBW.out.block _ HS2.out).trans HC2.out)
          clear m0 m1 m2 m3 m4 m5 l1 l2 l3 l4 l5
          obtain ⟨b0, b1, b2, b3, b4, b5, _⟩ := HBX.out
          obtain ⟨ad, rfl, _, hcx⟩ := (HRU.out w3 HBA.out).u8_at hltx
          obtain ⟨ad', eay, _, hcy⟩ := (HRU.out w3 HBA.out).u8_at hlty
          obtain rfl : ad = ad' := Option.some.inj eay
          generalize l.getD kx 0 = zx at *
          generalize l.getD ky 0 = zy at *
          go_wp2_with fail
          refine (HUY.out _).mono ?_
          rintro r w4 ⟨rfl, rfl⟩
          have HBz := Lib.hid HBA.out
          have HOWx := Lib.hid (own_keep1 HOW.out (fun g hg => (HBz.out.block g (HOW.out.lt g hg).2)))
          have hown := HOWx.out
          have hsz3 := HBW.out.size
          go_wp2_with (at_builtin; refine wpList_append_own _ rfl _ _ 83 rfl w2.heap.size 5 i0 (.int .u8 0) 1 1 Tryd.underlying83 hi hz0 hz1 hz2 rfl (by decide) _ _ _ rfl (hown.alloc _) ⟨w3.heap.size, 0, none⟩ 1 1 [.int .u8 (bits .or .u8 zx zy)] rfl rfl ?k1 ?k2 ?k3 ?k4 ?k5 ?_)
          case k2 => intro u hu; simp at hu; subst hu; rfl
          case k3 => unfold maxLen; omega
          case k4 => omega
          case k5 => simp; omega
          case k1 =>
            intro j' u hj'
            match j', hj' with
            | 0, hj' => simp at hj'; subst hj'; simp [Addr.add]
          · intro v' w9 hown' hgrow _
            have HL9 : Hid (w9.ownsRow w2.heap.size 5 1 v' (j + 1) (u8s ln)) := Lib.hid (by
              have e9 : u8s ln = u8s l ++ [.int .u8 (bits .or .u8 zx zy)] := by
                unfold u8s
                rw [HE.out, List.map_append]
                rfl
              rw [e9]; exact hown')
            have HB9 : Hid (Below w2.heap.size w2 w9) := Lib.hid ((HBW.out.alloc (by omega) _).grown hgrow (by simp; omega) (fun g hg => (HOWx.out.lt g hg).1))
            clear hown' hgrow hown
            go_wp2
            go_roundw
            case rel => exact ⟨j + 1, by omega, by go_num, by rw [HLN.out]; exact HL9, HB9⟩
            case measure => first | (simp [intOf]; done) | (simp [intOf]; omega)
      · as_aux_lemma =>
          obtain ⟨kx, hkx⟩ : ∃ k : Nat, x = (k : Int) := ⟨x.toNat, by have := (opsOk_x HOP.out rfl).1; dsimp only at this; omega⟩
          subst hkx
          have hltx : kx < j := by have := (opsOk_x HOP.out rfl).2; dsimp only at this; omega
          obtain ⟨ky, hky⟩ : ∃ k : Nat, yy = (k : Int) := ⟨yy.toNat, by have := (opsOk_y HOP.out rfl).1; dsimp only at this; omega⟩
          subst hky
          have hlty : ky < j := by have := (opsOk_y HOP.out rfl).2; dsimp only at this; omega
          have HE : Hid (ln = l ++ [bits .or .u8 (bits .andNot .u8 15 (l.getD kx 0)) (l.getD ky 0)]) := Lib.hid (by rw [HEXT.out]; rfl)
          have HBX := Lib.hid (Box.made wr ⟨7, i, e, g, (kx : Int), (ky : Int)⟩ 62)
          have HBA : Hid (Below wr.heap.size wr (wr.alloc (.cells #[.int .i64 7, .int .i64 i, .int .i64 e, .int .i64 g, .int .i64 (kx : Int), .int .i64 (ky : Int)] 62))) := Lib.hid ((Below.refl _ wr).alloc (Nat.le_refl _) _)
          have HSA : Hid (wr.heap.size < (wr.alloc (.cells #[.int .i64 7, .int .i64 i, .int .i64 e, .int .i64 g, .int .i64 (kx : Int), .int .i64 (ky : Int)] 62)).heap.size) := Lib.hid (by simp)
          go_wp2_with fail
          refine (HUX.out _).mono ?_
          rintro r w4 ⟨rfl, rfl⟩
          generalize wr.alloc (.cells #[.int .i64 7, .int .i64 i, .int .i64 e, .int .i64 g, .int .i64 (kx : Int), .int .i64 (ky : Int)] 62) = w3 at *
          have HBW := Lib.hid (HBI.out.trans (HBA.out.mono hsz))
          have HCM := Lib.hid ((HBW.out.block _ HS2.out).trans HC2.out)
          clear m0 m1 m2 m3 m4 m5 l1 l2 l3 l4 l5
          obtain ⟨b0, b1, b2, b3, b4, b5, _⟩ := HBX.out
          obtain ⟨ad, rfl, _, hcx⟩ := (HRU.out w3 HBA.out).u8_at hltx
          obtain ⟨ad', eay, _, hcy⟩ := (HRU.out w3 HBA.out).u8_at hlty
          obtain rfl : ad = ad' := Option.some.inj eay
          generalize l.getD kx 0 = zx at *
          generalize l.getD ky 0 = zy at *
          go_wp2_with fail
          refine (HUY.out _).mono ?_
          rintro r w4 ⟨rfl, rfl⟩
          have HBz := Lib.hid HBA.out
          have HOWx := Lib.hid (own_keep1 HOW.out (fun g hg => (HBz.out.block g (HOW.out.lt g hg).2)))
          have hown := HOWx.out
          have hsz3 := HBW.out.size
          go_wp2_with (at_builtin; refine wpList_append_own _ rfl _ _ 83 rfl w2.heap.size 5 i0 (.int .u8 0) 1 1 Tryd.underlying83 hi hz0 hz1 hz2 rfl (by decide) _ _ _ rfl (hown.alloc _) ⟨w3.heap.size, 0, none⟩ 1 1 [.int .u8 (bits .or .u8 (bits .andNot .u8 15 zx) zy)] rfl rfl ?k1 ?k2 ?k3 ?k4 ?k5 ?_)
          case k2 => intro u hu; simp at hu; subst hu; rfl
          case k3 => unfold maxLen; omega
          case k4 => omega
          case k5 => simp; omega
          case k1 =>
            intro j' u hj'
            match j', hj' with
            | 0, hj' => simp at hj'; subst hj'; simp [Addr.add]
          · intro v' w9 hown' hgrow _
            have HL9 : Hid (w9.ownsRow w2.heap.size 5 1 v' (j + 1) (u8s ln)) := Lib.hid (by
              have e9 : u8s ln = u8s l ++ [.int .u8 (bits .or .u8 (bits .andNot .u8 15 zx) zy)] := by
                unfold u8s
                rw [HE.out, List.map_append]
                rfl
              rw [e9]; exact hown')
            have HB9 : Hid (Below w2.heap.size w2 w9) := Lib.hid ((HBW.out.alloc (by omega) _).grown hgrow (by simp; omega) (fun g hg => (HOWx.out.lt g hg).1))
            clear hown' hgrow hown
            go_wp2
            go_roundw
            case rel => exact ⟨j + 1, by omega, by go_num, by rw [HLN.out]; exact HL9, HB9⟩
            case measure => first | (simp [intOf]; done) | (simp [intOf]; omega)
      · as_aux_lemma =>
          obtain ⟨kx, hkx⟩ : ∃ k : Nat, x = (k : Int) := ⟨x.toNat, by have := (opsOk_x HOP.out rfl).1; dsimp only at this; omega⟩
          subst hkx
          have hltx : kx < j := by have := (opsOk_x HOP.out rfl).2; dsimp only at this; omega
          obtain ⟨ky, hky⟩ : ∃ k : Nat, yy = (k : Int) := ⟨yy.toNat, by have := (opsOk_y HOP.out rfl).1; dsimp only at this; omega⟩
          subst hky
          have hlty : ky < j := by have := (opsOk_y HOP.out rfl).2; dsimp only at this; omega
          have HE : Hid (ln = l ++ [bits .andNot .u8 15 (bits .xor .u8 (l.getD kx 0) (l.getD ky 0))]) := Lib.hid (by rw [HEXT.out]; rfl)
          have HBX := Lib.hid (Box.made wr ⟨8, i, e, g, (kx : Int), (ky : Int)⟩ 62)
          have HBA : Hid (Below wr.heap.size wr (wr.alloc (.cells #[.int .i64 8, .int .i64 i, .int .i64 e, .int .i64 g, .int .i64 (kx : Int), .int .i64 (ky : Int)] 62))) := Lib.hid ((Below.refl _ wr).alloc (Nat.le_refl _) _)
          have HSA : Hid (wr.heap.size < (wr.alloc (.cells #[.int .i64 8, .int .i64 i, .int .i64 e, .int .i64 g, .int .i64 (kx : Int), .int .i64 (ky : Int)] 62)).heap.size) := Lib.hid (by simp)
          go_wp2_with fail
          refine (HUX.out _).mono ?_
          rintro r w4 ⟨rfl, rfl⟩
          generalize wr.alloc (.cells #[.int .i64 8, .int .i64 i, .int .i64 e, .int .i64 g, .int .i64 (kx : Int), .int .i64 (ky : Int)] 62) = w3 at *
          have HBW := Lib.hid (HBI.out.trans (HBA.out.mono hsz))
          have HCM := Lib.hid ((HBW.out.block _ HS2.out).trans HC2.out)
          clear m0 m1 m2 m3 m4 m5 l1 l2 l3 l4 l5
          obtain ⟨b0, b1, b2, b3, b4, b5, _⟩ := HBX.out
          obtain ⟨ad, rfl, _, hcx⟩ := (HRU.out w3 HBA.out).u8_at hltx
          obtain ⟨ad', eay, _, hcy⟩ := (HRU.out w3 HBA.out).u8_at hlty
          obtain rfl : ad = ad' := Option.some.inj eay
          generalize l.getD kx 0 = zx at *
          generalize l.getD ky 0 = zy at *
          go_wp2_with fail
          refine (HUY.out _).mono ?_
          rintro r w4 ⟨rfl, rfl⟩
          have HBz := Lib.hid HBA.out
          have HOWx := Lib.hid (own_keep1 HOW.out (fun g hg => (HBz.out.block g (HOW.out.lt g hg).2)))
          have hown := HOWx.out
          have hsz3 := HBW.out.size
          go_wp2_with (at_builtin; refine wpList_append_own _ rfl _ _ 83 rfl w2.heap.size 5 i0 (.int .u8 0) 1 1 Tryd.underlying83 hi hz0 hz1 hz2 rfl (by decide) _ _ _ rfl (hown.alloc _) ⟨w3.heap.size, 0, none⟩ 1 1 [.int .u8 (bits .andNot .u8 15 (bits .xor .u8 zx zy))] rfl rfl ?k1 ?k2 ?k3 ?k4 ?k5 ?_)
          case k2 => intro u hu; simp at hu; subst hu; rfl
          case k3 => unfold maxLen; omega
          case k4 => omega
          case k5 => simp; omega
          case k1 =>
            intro j' u hj'
            match j', hj' with
            | 0, hj' => simp at hj'; subst hj'; simp [Addr.add]
          · intro v' w9 hown' hgrow _
            have HL9 : Hid (w9.ownsRow w2.heap.size 5 1 v' (j + 1) (u8s ln)) := Lib.hid (by
              have e9 : u8s ln = u8s l ++ [.int .u8 (bits .andNot .u8 15 (bits .xor .u8 zx zy))] := by
                unfold u8s
                rw [HE.out, List.map_append]
                rfl
              rw [e9]; exact hown')
            have HB9 : Hid (Below w2.heap.size w2 w9) := Lib.hid ((HBW.out.alloc (by omega) _).grown hgrow (by simp; omega) (fun g hg => (HOWx.out.lt g hg).1))
            clear hown' hgrow hown
            go_wp2
            go_roundw
            case rel => exact ⟨j + 1, by omega, by go_num, by rw [HLN.out]; exact HL9, HB9⟩
            case measure => first | (simp [intOf]; done) | (simp [intOf]; omega)
      · as_aux_lemma =>
          rcases HSN.out.2.2.2.1 (by decide) with rfl | rfl
          · as_aux_lemma =>
              obtain ⟨kx, hkx⟩ : ∃ k : Nat, x = (k : Int) := ⟨x.toNat, by have := (opsOk_x HOP.out rfl).1; dsimp only at this; omega⟩
              subst hkx
              have hltx : kx < j := by have := (opsOk_x HOP.out rfl).2; dsimp only at this; omega
              have HE : Hid (ln = l ++ [afG T 1 false (l.getD kx 0)]) := Lib.hid (by rw [HEXT.out]; rfl)
              have HBX := Lib.hid (Box.made wr ⟨9, 0, e, g, (kx : Int), yy⟩ 62)
              have HBA : Hid (Below wr.heap.size wr (wr.alloc (.cells #[.int .i64 9, .int .i64 0, .int .i64 e, .int .i64 g, .int .i64 (kx : Int), .int .i64 yy] 62))) := Lib.hid ((Below.refl _ wr).alloc (Nat.le_refl _) _)
              have HSA : Hid (wr.heap.size < (wr.alloc (.cells #[.int .i64 9, .int .i64 0, .int .i64 e, .int .i64 g, .int .i64 (kx : Int), .int .i64 yy] 62)).heap.size) := Lib.hid (by simp)
              go_wp2_with fail
              refine (HUX.out _).mono ?_
              rintro r w4 ⟨rfl, rfl⟩
              generalize wr.alloc (.cells #[.int .i64 9, .int .i64 0, .int .i64 e, .int .i64 g, .int .i64 (kx : Int), .int .i64 yy] 62) = w3 at *
              have HBW := Lib.hid (HBI.out.trans (HBA.out.mono hsz))
              have HCM := Lib.hid ((HBW.out.block _ HS2.out).trans HC2.out)
              clear m0 m1 m2 m3 m4 m5 l1 l2 l3 l4 l5
              obtain ⟨b0, b1, b2, b3, b4, b5, _⟩ := HBX.out
              obtain ⟨ad, rfl, _, hcx⟩ := (HRU.out w3 HBA.out).u8_at hltx
              generalize l.getD kx 0 = zx at *
              go_wp2_with fail
              refine (HUY.out _).mono ?_
              rintro r w4 ⟨rfl, rfl⟩
              have hcell := Lib.cell_of_heap HCM.out
              have c0 := hcell 0
              have c1 := hcell 1
              have c2 := hcell 2
              have c3 := hcell 3
              have c4 := hcell 4
              have c5 := hcell 5
              have c6 := hcell 6
              have c7 := hcell 7
              have c8 := hcell 8
              have c9 := hcell 9
              have c10 := hcell 10
              have c11 := hcell 11
              clear hcell
              simp at c0 c1 c2 c3 c4 c5 c6 c7 c8 c9 c10 c11
              have HKP : Hid (∀ W W2 : World, Hid (Below w3.heap.size w3 W) → Below W.heap.size W W2 → W2.cell? ⟨wr.heap.size, 1, none⟩ = some (.int .i64 0) ∧ W2.cell? ⟨w.heap.size, 0, none⟩ = some (.int .u8 (F 0)) ∧ W2.cell? ⟨w.heap.size, 1, none⟩ = some (.int .u8 (T 0 0)) ∧ W2.cell? ⟨w.heap.size, 2, none⟩ = some (.int .u8 (T 0 1)) ∧ W2.cell? ⟨w.heap.size, 3, none⟩ = some (.int .u8 (F 1)) ∧ W2.cell? ⟨w.heap.size, 4, none⟩ = some (.int .u8 (T 1 0)) ∧ W2.cell? ⟨w.heap.size, 5, none⟩ = some (.int .u8 (T 1 1)) ∧ W2.cell? ⟨w.heap.size, 6, none⟩ = some (.int .u8 (F 2)) ∧ W2.cell? ⟨w.heap.size, 7, none⟩ = some (.int .u8 (T 2 0)) ∧ W2.cell? ⟨w.heap.size, 8, none⟩ = some (.int .u8 (T 2 1)) ∧ W2.cell? ⟨w.heap.size, 9, none⟩ = some (.int .u8 (F 3)) ∧ W2.cell? ⟨w.heap.size, 10, none⟩ = some (.int .u8 (T 3 0)) ∧ W2.cell? ⟨w.heap.size, 11, none⟩ = some (.int .u8 (T 3 1)) ∧ Hid (Below w3.heap.size w3 W2)) := Lib.hid (fun W W2 h1 h2 => by
                have hb := h1.out.trans (h2.mono h1.out.size)
                have hx := Lib.cell_of_heap ((hb.block _ (Nat.lt_of_lt_of_le HS2.out HBW.out.size)).trans HCM.out)
                have d0 := hx 0
                have d1 := hx 1
                have d2 := hx 2
                have d3 := hx 3
                have d4 := hx 4
                have d5 := hx 5
                have d6 := hx 6
                have d7 := hx 7
                have d8 := hx 8
                have d9 := hx 9
                have d10 := hx 10
                have d11 := hx 11
                simp at d0 d1 d2 d3 d4 d5 d6 d7 d8 d9 d10 d11
                exact ⟨(World.cell?_of_block (a := ⟨wr.heap.size, 1, none⟩) (hb.block _ HSA.out)).trans b1, d0, d1, d2, d3, d4, d5, d6, d7, d8, d9, d10, d11, Lib.hid hb⟩)
              have hd3 : Hid (Below w3.heap.size w3 w3.drew) := Lib.hid (Below.refl _ w3).drew
              go_wp2_with fail
              go_region_held3 (fun W => W.cell? ⟨wr.heap.size, 1, none⟩ = some (.int .i64 0) ∧ W.cell? ⟨w.heap.size, 0, none⟩ = some (.int .u8 (F 0)) ∧ W.cell? ⟨w.heap.size, 1, none⟩ = some (.int .u8 (T 0 0)) ∧ W.cell? ⟨w.heap.size, 2, none⟩ = some (.int .u8 (T 0 1)) ∧ W.cell? ⟨w.heap.size, 3, none⟩ = some (.int .u8 (F 1)) ∧ W.cell? ⟨w.heap.size, 4, none⟩ = some (.int .u8 (T 1 0)) ∧ W.cell? ⟨w.heap.size, 5, none⟩ = some (.int .u8 (T 1 1)) ∧ W.cell? ⟨w.heap.size, 6, none⟩ = some (.int .u8 (F 2)) ∧ W.cell? ⟨w.heap.size, 7, none⟩ = some (.int .u8 (T 2 0)) ∧ W.cell? ⟨w.heap.size, 8, none⟩ = some (.int .u8 (T 2 1)) ∧ W.cell? ⟨w.heap.size, 9, none⟩ = some (.int .u8 (F 3)) ∧ W.cell? ⟨w.heap.size, 10, none⟩ = some (.int .u8 (T 3 0)) ∧ W.cell? ⟨w.heap.size, 11, none⟩ = some (.int .u8 (T 3 1)) ∧ Hid (Below w3.heap.size w3 W)) (first | assumption | (refine ⟨?_, ?_, ?_, ?_, ?_, ?_, ?_, ?_, ?_, ?_, ?_, ?_, ?_, ?_⟩ <;> assumption) | go_keep)
                (first
                  | (go_at_call 76; refine (HAF.out 1 (by decide) false zx _).mono ?_; rintro r w5 ⟨rfl, hb⟩; obtain ⟨g1, g0, g2, g3, g4, g5, g6, g7, g8, g9, g10, g11, g12, g13⟩ := HKP.out _ _ (by assumption) hb))
              have HBz := Lib.hid (HBA.out.trans (g13.out.mono HBA.out.size))
              have HBW5 := Lib.hid (HBW.out.trans (g13.out.mono HBW.out.size))
              clear hb g0 g1 g2 g3 g4 g5 g6 g7 g8 g9 g10 g11 g12 g13 b0 b1 b2 b3 b4 b5 hd3
              clear c0 c1 c2 c3 c4 c5 c6 c7 c8 c9 c10 c11
              have HOWx := Lib.hid (own_keep1 HOW.out (fun g hg => (HBz.out.block g (HOW.out.lt g hg).2)))
              have hown := HOWx.out
              have hsz3 := HBW5.out.size
              go_wp2_with (at_builtin; refine wpList_append_own _ rfl _ _ 83 rfl w2.heap.size 5 i0 (.int .u8 0) 1 1 Tryd.underlying83 hi hz0 hz1 hz2 rfl (by decide) _ _ _ rfl (hown.alloc _) ⟨w5.heap.size, 0, none⟩ 1 1 [.int .u8 (outI false (b0G 1) (b1G 1) T zx 4)] rfl rfl ?k1 ?k2 ?k3 ?k4 ?k5 ?_)
              case k2 => intro u hu; simp at hu; subst hu; rfl
              case k3 => unfold maxLen; omega
              case k4 => omega
              case k5 => simp; omega
              case k1 =>
                intro j' u hj'
                match j', hj' with
                | 0, hj' => simp at hj'; subst hj'; simp [Addr.add]
              · intro v' w9 hown' hgrow _
                have HL9 : Hid (w9.ownsRow w2.heap.size 5 1 v' (j + 1) (u8s ln)) := Lib.hid (by
                  have e9 : u8s ln = u8s l ++ [.int .u8 (afG T 1 false zx)] := by
                    unfold u8s
                    rw [HE.out, List.map_append]
                    rfl
                  rw [e9]; exact hown')
                have HB9 : Hid (Below w2.heap.size w2 w9) := Lib.hid ((HBW5.out.alloc (by omega) _).grown hgrow (by simp; omega) (fun g hg => (HOWx.out.lt g hg).1))
                clear hown' hgrow hown
                go_wp2
                go_roundw
                case rel => exact ⟨j + 1, by omega, by go_num, by rw [HLN.out]; exact HL9, HB9⟩
                case measure => first | (simp [intOf]; done) | (simp [intOf]; omega)
          · as_aux_lemma =>
              obtain ⟨kx, hkx⟩ : ∃ k : Nat, x = (k : Int) := ⟨x.toNat, by have := (opsOk_x HOP.out rfl).1; dsimp only at this; omega⟩
              subst hkx
              have hltx : kx < j := by have := (opsOk_x HOP.out rfl).2; dsimp only at this; omega
              have HE : Hid (ln = l ++ [afG T 2 false (l.getD kx 0)]) := Lib.hid (by rw [HEXT.out]; rfl)
              have HBX := Lib.hid (Box.made wr ⟨9, 1, e, g, (kx : Int), yy⟩ 62)
              have HBA : Hid (Below wr.heap.size wr (wr.alloc (.cells #[.int .i64 9, .int .i64 1, .int .i64 e, .int .i64 g, .int .i64 (kx : Int), .int .i64 yy] 62))) := Lib.hid ((Below.refl _ wr).alloc (Nat.le_refl _) _)
              have HSA : Hid (wr.heap.size < (wr.alloc (.cells #[.int .i64 9, .int .i64 1, .int .i64 e, .int .i64 g, .int .i64 (kx : Int), .int .i64 yy] 62)).heap.size) := Lib.hid (by simp)
              go_wp2_with fail
              refine (HUX.out _).mono ?_
              rintro r w4 ⟨rfl, rfl⟩
              generalize wr.alloc (.cells #[.int .i64 9, .int .i64 1, .int .i64 e, .int .i64 g, .int .i64 (kx : Int), .int .i64 yy] 62) = w3 at *
              have HBW := Lib.hid (HBI.out.trans (HBA.out.mono hsz))
              have HCM := Lib.hid ((HBW.out.block _ HS2.out).trans HC2.out)
              clear m0 m1 m2 m3 m4 m5 l1 l2 l3 l4 l5
              obtain ⟨b0, b1, b2, b3, b4, b5, _⟩ := HBX.out
              obtain ⟨ad, rfl, _, hcx⟩ := (HRU.out w3 HBA.out).u8_at hltx
              generalize l.getD kx 0 = zx at *
              go_wp2_with fail
              refine (HUY.out _).mono ?_
              rintro r w4 ⟨rfl, rfl⟩
              have hcell := Lib.cell_of_heap HCM.out
              have c0 := hcell 0
              have c1 := hcell 1
              have c2 := hcell 2
              have c3 := hcell 3
              have c4 := hcell 4
              have c5 := hcell 5
              have c6 := hcell 6
              have c7 := hcell 7
              have c8 := hcell 8
              have c9 := hcell 9
              have c10 := hcell 10
              have c11 := hcell 11
              clear hcell
              simp at c0 c1 c2 c3 c4 c5 c6 c7 c8 c9 c10 c11
              have HKP : Hid (∀ W W2 : World, Hid (Below w3.heap.size w3 W) → Below W.heap.size W W2 → W2.cell? ⟨wr.heap.size, 1, none⟩ = some (.int .i64 1) ∧ W2.cell? ⟨w.heap.size, 0, none⟩ = some (.int .u8 (F 0)) ∧ W2.cell? ⟨w.heap.size, 1, none⟩ = some (.int .u8 (T 0 0)) ∧ W2.cell? ⟨w.heap.size, 2, none⟩ = some (.int .u8 (T 0 1)) ∧ W2.cell? ⟨w.heap.size, 3, none⟩ = some (.int .u8 (F 1)) ∧ W2.cell? ⟨w.heap.size, 4, none⟩ = some (.int .u8 (T 1 0)) ∧ W2.cell? ⟨w.heap.size, 5, none⟩ = some (.int .u8 (T 1 1)) ∧ W2.cell? ⟨w.heap.size, 6, none⟩ = some (.int .u8 (F 2)) ∧ W2.cell? ⟨w.heap.size, 7, none⟩ = some (.int .u8 (T 2 0)) ∧ W2.cell? ⟨w.heap.size, 8, none⟩ = some (.int .u8 (T 2 1)) ∧ W2.cell? ⟨w.heap.size, 9, none⟩ = some (.int .u8 (F 3)) ∧ W2.cell? ⟨w.heap.size, 10, none⟩ = some (.int .u8 (T 3 0)) ∧ W2.cell? ⟨w.heap.size, 11, none⟩ = some (.int .u8 (T 3 1)) ∧ Hid (Below w3.heap.size w3 W2)) := Lib.hid (fun W W2 h1 h2 => by
                have hb := h1.out.trans (h2.mono h1.out.size)
                have hx := Lib.cell_of_heap ((hb.block _ (Nat.lt_of_lt_of_le HS2.out HBW.out.size)).trans HCM.out)
                have d0 := hx 0
                have d1 := hx 1
                have d2 := hx 2
                have d3 := hx 3
                have d4 := hx 4
                have d5 := hx 5
                have d6 := hx 6
                have d7 := hx 7
                have d8 := hx 8
                have d9 := hx 9
                have d10 := hx 10
                have d11 := hx 11
                simp at d0 d1 d2 d3 d4 d5 d6 d7 d8 d9 d10 d11
                exact ⟨(World.cell?_of_block (a := ⟨wr.heap.size, 1, none⟩) (hb.block _ HSA.out)).trans b1, d0, d1, d2, d3, d4, d5, d6, d7, d8, d9, d10, d11, Lib.hid hb⟩)
              have hd3 : Hid (Below w3.heap.size w3 w3.drew) := Lib.hid (Below.refl _ w3).drew
              go_wp2_with fail
              go_region_held3 (fun W => W.cell? ⟨wr.heap.size, 1, none⟩ = some (.int .i64 1) ∧ W.cell? ⟨w.heap.size, 0, none⟩ = some (.int .u8 (F 0)) ∧ W.cell? ⟨w.heap.size, 1, none⟩ = some (.int .u8 (T 0 0)) ∧ W.cell? ⟨w.heap.size, 2, none⟩ = some (.int .u8 (T 0 1)) ∧ W.cell? ⟨w.heap.size, 3, none⟩ = some (.int .u8 (F 1)) ∧ W.cell? ⟨w.heap.size, 4, none⟩ = some (.int .u8 (T 1 0)) ∧ W.cell? ⟨w.heap.size, 5, none⟩ = some (.int .u8 (T 1 1)) ∧ W.cell? ⟨w.heap.size, 6, none⟩ = some (.int .u8 (F 2)) ∧ W.cell? ⟨w.heap.size, 7, none⟩ = some (.int .u8 (T 2 0)) ∧ W.cell? ⟨w.heap.size, 8, none⟩ = some (.int .u8 (T 2 1)) ∧ W.cell? ⟨w.heap.size, 9, none⟩ = some (.int .u8 (F 3)) ∧ W.cell? ⟨w.heap.size, 10, none⟩ = some (.int .u8 (T 3 0)) ∧ W.cell? ⟨w.heap.size, 11, none⟩ = some (.int .u8 (T 3 1)) ∧ Hid (Below w3.heap.size w3 W)) (first | assumption | (refine ⟨?_, ?_, ?_, ?_, ?_, ?_, ?_, ?_, ?_, ?_, ?_, ?_, ?_, ?_⟩ <;> assumption) | go_keep)
                (first
                  | (go_at_call 76; refine (HAF.out 2 (by decide) false zx _).mono ?_; rintro r w5 ⟨rfl, hb⟩; obtain ⟨g1, g0, g2, g3, g4, g5, g6, g7, g8, g9, g10, g11, g12, g13⟩ := HKP.out _ _ (by assumption) hb))
              have HBz := Lib.hid (HBA.out.trans (g13.out.mono HBA.out.size))
              have HBW5 := Lib.hid (HBW.out.trans (g13.out.mono HBW.out.size))
              clear hb g0 g1 g2 g3 g4 g5 g6 g7 g8 g9 g10 g11 g12 g13 b0 b1 b2 b3 b4 b5 hd3
              clear c0 c1 c2 c3 c4 c5 c6 c7 c8 c9 c10 c11
              have HOWx := Lib.hid (own_keep1 HOW.out (fun g hg => (HBz.out.block g (HOW.out.lt g hg).2)))
              have hown := HOWx.out
              have hsz3 := HBW5.out.size
              go_wp2_with (at_builtin; refine wpList_append_own _ rfl _ _ 83 rfl w2.heap.size 5 i0 (.int .u8 0) 1 1 Tryd.underlying83 hi hz0 hz1 hz2 rfl (by decide) _ _ _ rfl (hown.alloc _) ⟨w5.heap.size, 0, none⟩ 1 1 [.int .u8 (outI false (b0G 2) (b1G 2) T zx 4)] rfl rfl ?k1 ?k2 ?k3 ?k4 ?k5 ?_)
              case k2 => intro u hu; simp at hu; subst hu; rfl
              case k3 => unfold maxLen; omega
              case k4 => omega
              case k5 => simp; omega
              case k1 =>
                intro j' u hj'
                match j', hj' with
                | 0, hj' => simp at hj'; subst hj'; simp [Addr.add]
              · intro v' w9 hown' hgrow _
                have HL9 : Hid (w9.ownsRow w2.heap.size 5 1 v' (j + 1) (u8s ln)) := Lib.hid (by
                  have e9 : u8s ln = u8s l ++ [.int .u8 (afG T 2 false zx)] := by
                    unfold u8s
                    rw [HE.out, List.map_append]
                    rfl
                  rw [e9]; exact hown')
                have HB9 : Hid (Below w2.heap.size w2 w9) := Lib.hid ((HBW5.out.alloc (by omega) _).grown hgrow (by simp; omega) (fun g hg => (HOWx.out.lt g hg).1))
                clear hown' hgrow hown
                go_wp2
                go_roundw
                case rel => exact ⟨j + 1, by omega, by go_num, by rw [HLN.out]; exact HL9, HB9⟩
                case measure => first | (simp [intOf]; done) | (simp [intOf]; omega)
      · as_aux_lemma =>
          rcases HSN.out.2.2.2.1 (by decide) with rfl | rfl
          · as_aux_lemma =>
              obtain ⟨kx, hkx⟩ : ∃ k : Nat, x = (k : Int) := ⟨x.toNat, by have := (opsOk_x HOP.out rfl).1; dsimp only at this; omega⟩
              subst hkx
              have hltx : kx < j := by have := (opsOk_x HOP.out rfl).2; dsimp only at this; omega
              have HE : Hid (ln = l ++ [bits .andNot .u8 15 (afG T 1 false (bits .andNot .u8 15 (l.getD kx 0)))]) := Lib.hid (by rw [HEXT.out]; rfl)
              have HBX := Lib.hid (Box.made wr ⟨10, 0, e, g, (kx : Int), yy⟩ 62)
              have HBA : Hid (Below wr.heap.size wr (wr.alloc (.cells #[.int .i64 10, .int .i64 0, .int .i64 e, .int .i64 g, .int .i64 (kx : Int), .int .i64 yy] 62))) := Lib.hid ((Below.refl _ wr).alloc (Nat.le_refl _) _)
              have HSA : Hid (wr.heap.size < (wr.alloc (.cells #[.int .i64 10, .int .i64 0, .int .i64 e, .int .i64 g, .int .i64 (kx : Int), .int .i64 yy] 62)).heap.size) := Lib.hid (by simp)
              go_wp2_with fail
              refine (HUX.out _).mono ?_
              rintro r w4 ⟨rfl, rfl⟩
              generalize wr.alloc (.cells #[.int .i64 10, .int .i64 0, .int .i64 e, .int .i64 g, .int .i64 (kx : Int), .int .i64 yy] 62) = w3 at *
              have HBW := Lib.hid (HBI.out.trans (HBA.out.mono hsz))
              have HCM := Lib.hid ((HBW.out.block _ HS2.out).trans HC2.out)
              clear m0 m1 m2 m3 m4 m5 l1 l2 l3 l4 l5
              obtain ⟨b0, b1, b2, b3, b4, b5, _⟩ := HBX.out
              obtain ⟨ad, rfl, _, hcx⟩ := (HRU.out w3 HBA.out).u8_at hltx
              generalize l.getD kx 0 = zx at *
              go_wp2_with fail
              refine (HUY.out _).mono ?_
              rintro r w4 ⟨rfl, rfl⟩
              have hcell := Lib.cell_of_heap HCM.out
              have c0 := hcell 0
              have c1 := hcell 1
              have c2 := hcell 2
              have c3 := hcell 3
              have c4 := hcell 4
              have c5 := hcell 5
              have c6 := hcell 6
              have c7 := hcell 7
              have c8 := hcell 8
              have c9 := hcell 9
              have c10 := hcell 10
              have c11 := hcell 11
              clear hcell
              simp at c0 c1 c2 c3 c4 c5 c6 c7 c8 c9 c10 c11
              have HKP : Hid (∀ W W2 : World, Hid (Below w3.heap.size w3 W) → Below W.heap.size W W2 → W2.cell? ⟨wr.heap.size, 1, none⟩ = some (.int .i64 0) ∧ W2.cell? ⟨w.heap.size, 0, none⟩ = some (.int .u8 (F 0)) ∧ W2.cell? ⟨w.heap.size, 1, none⟩ = some (.int .u8 (T 0 0)) ∧ W2.cell? ⟨w.heap.size, 2, none⟩ = some (.int .u8 (T 0 1)) ∧ W2.cell? ⟨w.heap.size, 3, none⟩ = some (.int .u8 (F 1)) ∧ W2.cell? ⟨w.heap.size, 4, none⟩ = some (.int .u8 (T 1 0)) ∧ W2.cell? ⟨w.heap.size, 5, none⟩ = some (.int .u8 (T 1 1)) ∧ W2.cell? ⟨w.heap.size, 6, none⟩ = some (.int .u8 (F 2)) ∧ W2.cell? ⟨w.heap.size, 7, none⟩ = some (.int .u8 (T 2 0)) ∧ W2.cell? ⟨w.heap.size, 8, none⟩ = some (.int .u8 (T 2 1)) ∧ W2.cell? ⟨w.heap.size, 9, none⟩ = some (.int .u8 (F 3)) ∧ W2.cell? ⟨w.heap.size, 10, none⟩ = some (.int .u8 (T 3 0)) ∧ W2.cell? ⟨w.heap.size, 11, none⟩ = some (.int .u8 (T 3 1)) ∧ Hid (Below w3.heap.size w3 W2)) := Lib.hid (fun W W2 h1 h2 => by
                have hb := h1.out.trans (h2.mono h1.out.size)
                have hx := Lib.cell_of_heap ((hb.block _ (Nat.lt_of_lt_of_le HS2.out HBW.out.size)).trans HCM.out)
                have d0 := hx 0
                have d1 := hx 1
                have d2 := hx 2
                have d3 := hx 3
                have d4 := hx 4
                have d5 := hx 5
                have d6 := hx 6
                have d7 := hx 7
                have d8 := hx 8
                have d9 := hx 9
                have d10 := hx 10
                have d11 := hx 11
                simp at d0 d1 d2 d3 d4 d5 d6 d7 d8 d9 d10 d11
                exact ⟨(World.cell?_of_block (a := ⟨wr.heap.size, 1, none⟩) (hb.block _ HSA.out)).trans b1, d0, d1, d2, d3, d4, d5, d6, d7, d8, d9, d10, d11, Lib.hid hb⟩)
              have hd3 : Hid (Below w3.heap.size w3 w3.drew) := Lib.hid (Below.refl _ w3).drew
              go_wp2_with fail
              go_region_held3 (fun W => W.cell? ⟨wr.heap.size, 1, none⟩ = some (.int .i64 0) ∧ W.cell? ⟨w.heap.size, 0, none⟩ = some (.int .u8 (F 0)) ∧ W.cell? ⟨w.heap.size, 1, none⟩ = some (.int .u8 (T 0 0)) ∧ W.cell? ⟨w.heap.size, 2, none⟩ = some (.int .u8 (T 0 1)) ∧ W.cell? ⟨w.heap.size, 3, none⟩ = some (.int .u8 (F 1)) ∧ W.cell? ⟨w.heap.size, 4, none⟩ = some (.int .u8 (T 1 0)) ∧ W.cell? ⟨w.heap.size, 5, none⟩ = some (.int .u8 (T 1 1)) ∧ W.cell? ⟨w.heap.size, 6, none⟩ = some (.int .u8 (F 2)) ∧ W.cell? ⟨w.heap.size, 7, none⟩ = some (.int .u8 (T 2 0)) ∧ W.cell? ⟨w.heap.size, 8, none⟩ = some (.int .u8 (T 2 1)) ∧ W.cell? ⟨w.heap.size, 9, none⟩ = some (.int .u8 (F 3)) ∧ W.cell? ⟨w.heap.size, 10, none⟩ = some (.int .u8 (T 3 0)) ∧ W.cell? ⟨w.heap.size, 11, none⟩ = some (.int .u8 (T 3 1)) ∧ Hid (Below w3.heap.size w3 W)) (first | assumption | (refine ⟨?_, ?_, ?_, ?_, ?_, ?_, ?_, ?_, ?_, ?_, ?_, ?_, ?_, ?_⟩ <;> assumption) | go_keep)
                (first
                  | (go_at_call 76; refine (HAF.out 1 (by decide) false (bits .andNot .u8 15 zx) _).mono ?_; rintro r w5 ⟨rfl, hb⟩; obtain ⟨g1, g0, g2, g3, g4, g5, g6, g7, g8, g9, g10, g11, g12, g13⟩ := HKP.out _ _ (by assumption) hb))
              have HBz := Lib.hid (HBA.out.trans (g13.out.mono HBA.out.size))
              have HBW5 := Lib.hid (HBW.out.trans (g13.out.mono HBW.out.size))
              clear hb g0 g1 g2 g3 g4 g5 g6 g7 g8 g9 g10 g11 g12 g13 b0 b1 b2 b3 b4 b5 hd3
              clear c0 c1 c2 c3 c4 c5 c6 c7 c8 c9 c10 c11
              have HOWx := Lib.hid (own_keep1 HOW.out (fun g hg => (HBz.out.block g (HOW.out.lt g hg).2)))
              have hown := HOWx.out
              have hsz3 := HBW5.out.size
              go_wp2_with (at_builtin; refine wpList_append_own _ rfl _ _ 83 rfl w2.heap.size 5 i0 (.int .u8 0) 1 1 Tryd.underlying83 hi hz0 hz1 hz2 rfl (by decide) _ _ _ rfl (hown.alloc _) ⟨w5.heap.size, 0, none⟩ 1 1 [.int .u8 (bits .andNot .u8 15 (outI false (b0G 1) (b1G 1) T (bits .andNot .u8 15 zx) 4))] rfl rfl ?k1 ?k2 ?k3 ?k4 ?k5 ?_)
              case k2 => intro u hu; simp at hu; subst hu; rfl
              case k3 => unfold maxLen; omega
              case k4 => omega
              case k5 => simp; omega
              case k1 =>
                intro j' u hj'
                match j', hj' with
                | 0, hj' => simp at hj'; subst hj'; simp [Addr.add]
              · intro v' w9 hown' hgrow _
                have HL9 : Hid (w9.ownsRow w2.heap.size 5 1 v' (j + 1) (u8s ln)) := Lib.hid (by
                  have e9 : u8s ln = u8s l ++ [.int .u8 (bits .andNot .u8 15 (afG T 1 false (bits .andNot .u8 15 zx)))] := by
                    unfold u8s
                    rw [HE.out, List.map_append]
                    rfl
                  rw [e9]; exact hown')
                have HB9 : Hid (Below w2.heap.size w2 w9) := Lib.hid ((HBW5.out.alloc (by omega) _).grown hgrow (by simp; omega) (fun g hg => (HOWx.out.lt g hg).1))
                clear hown' hgrow hown
                go_wp2
                go_roundw
                case rel => exact ⟨j + 1, by omega, by go_num, by rw [HLN.out]; exact HL9, HB9⟩
                case measure => first | (simp [intOf]; done) | (simp [intOf]; omega)
          · as_aux_lemma =>
              obtain ⟨kx, hkx⟩ : ∃ k : Nat, x = (k : Int) := ⟨x.toNat, by have := (opsOk_x HOP.out rfl).1; dsimp only at this; omega⟩
              subst hkx
              have hltx : kx < j := by have := (opsOk_x HOP.out rfl).2; dsimp only at this; omega
              have HE : Hid (ln = l ++ [bits .andNot .u8 15 (afG T 2 false (bits .andNot .u8 15 (l.getD kx 0)))]) := Lib.hid (by rw [HEXT.out]; rfl)
              have HBX := Lib.hid (Box.made wr ⟨10, 1, e, g, (kx : Int), yy⟩ 62)
              have HBA : Hid (Below wr.heap.size wr (wr.alloc (.cells #[.int .i64 10, .int .i64 1, .int .i64 e, .int .i64 g, .int .i64 (kx : Int), .int .i64 yy] 62))) := Lib.hid ((Below.refl _ wr).alloc (Nat.le_refl _) _)
              have HSA : Hid (wr.heap.size < (wr.alloc (.cells #[.int .i64 10, .int .i64 1, .int .i64 e, .int .i64 g, .int .i64 (kx : Int), .int .i64 yy] 62)).heap.size) := Lib.hid (by simp)
              go_wp2_with fail
              refine (HUX.out _).mono ?_
              rintro r w4 ⟨rfl, rfl⟩
              generalize wr.alloc (.cells #[.int .i64 10, .int .i64 1, .int .i64 e, .int .i64 g, .int .i64 (kx : Int), .int .i64 yy] 62) = w3 at *
              have HBW := Lib.hid (HBI.out.trans (HBA.out.mono hsz))
              have HCM := Lib.hid ((HBW.out.block _ HS2.out).trans HC2.out)
              clear m0 m1 m2 m3 m4 m5 l1 l2 l3 l4 l5
              obtain ⟨b0, b1, b2, b3, b4, b5, _⟩ := HBX.out
              obtain ⟨ad, rfl, _, hcx⟩ := (HRU.out w3 HBA.out).u8_at hltx
              generalize l.getD kx 0 = zx at *
              go_wp2_with fail
              refine (HUY.out _).mono ?_
              rintro r w4 ⟨rfl, rfl⟩
              have hcell := Lib.cell_of_heap HCM.out
              have c0 := hcell 0
              have c1 := hcell 1
              have c2 := hcell 2
              have c3 := hcell 3
              have c4 := hcell 4
              have c5 := hcell 5
              have c6 := hcell 6
              have c7 := hcell 7
              have c8 := hcell 8
              have c9 := hcell 9
              have c10 := hcell 10
              have c11 := hcell 11
              clear hcell
              simp at c0 c1 c2 c3 c4 c5 c6 c7 c8 c9 c10 c11
              have HKP : Hid (∀ W W2 : World, Hid (Below w3.heap.size w3 W) → Below W.heap.size W W2 → W2.cell? ⟨wr.heap.size, 1, none⟩ = some (.int .i64 1) ∧ W2.cell? ⟨w.heap.size, 0, none⟩ = some (.int .u8 (F 0)) ∧ W2.cell? ⟨w.heap.size, 1, none⟩ = some (.int .u8 (T 0 0)) ∧ W2.cell? ⟨w.heap.size, 2, none⟩ = some (.int .u8 (T 0 1)) ∧ W2.cell? ⟨w.heap.size, 3, none⟩ = some (.int .u8 (F 1)) ∧ W2.cell? ⟨w.heap.size, 4, none⟩ = some (.int .u8 (T 1 0)) ∧ W2.cell? ⟨w.heap.size, 5, none⟩ = some (.int .u8 (T 1 1)) ∧ W2.cell? ⟨w.heap.size, 6, none⟩ = some (.int .u8 (F 2)) ∧ W2.cell? ⟨w.heap.size, 7, none⟩ = some (.int .u8 (T 2 0)) ∧ W2.cell? ⟨w.heap.size, 8, none⟩ = some (.int .u8 (T 2 1)) ∧ W2.cell? ⟨w.heap.size, 9, none⟩ = some (.int .u8 (F 3)) ∧ W2.cell? ⟨w.heap.size, 10, none⟩ = some (.int .u8 (T 3 0)) ∧ W2.cell? ⟨w.heap.size, 11, none⟩ = some (.int .u8 (T 3 1)) ∧ Hid (Below w3.heap.size w3 W2)) := Lib.hid (fun W W2 h1 h2 => by
                have hb := h1.out.trans (h2.mono h1.out.size)
                have hx := Lib.cell_of_heap ((hb.block _ (Nat.lt_of_lt_of_le HS2.out HBW.out.size)).trans HCM.out)
                have d0 := hx 0
                have d1 := hx 1
                have d2 := hx 2
                have d3 := hx 3
                have d4 := hx 4
                have d5 := hx 5
                have d6 := hx 6
                have d7 := hx 7
                have d8 := hx 8
                have d9 := hx 9
                have d10 := hx 10
                have d11 := hx 11
                simp at d0 d1 d2 d3 d4 d5 d6 d7 d8 d9 d10 d11
                exact ⟨(World.cell?_of_block (a := ⟨wr.heap.size, 1, none⟩) (hb.block _ HSA.out)).trans b1, d0, d1, d2, d3, d4, d5, d6, d7, d8, d9, d10, d11, Lib.hid hb⟩)
              have hd3 : Hid (Below w3.heap.size w3 w3.drew) := Lib.hid (Below.refl _ w3).drew
              go_wp2_with fail
              go_region_held3 (fun W => W.cell? ⟨wr.heap.size, 1, none⟩ = some (.int .i64 1) ∧ W.cell? ⟨w.heap.size, 0, none⟩ = some (.int .u8 (F 0)) ∧ W.cell? ⟨w.heap.size, 1, none⟩ = some (.int .u8 (T 0 0)) ∧ W.cell? ⟨w.heap.size, 2, none⟩ = some (.int .u8 (T 0 1)) ∧ W.cell? ⟨w.heap.size, 3, none⟩ = some (.int .u8 (F 1)) ∧ W.cell? ⟨w.heap.size, 4, none⟩ = some (.int .u8 (T 1 0)) ∧ W.cell? ⟨w.heap.size, 5, none⟩ = some (.int .u8 (T 1 1)) ∧ W.cell? ⟨w.heap.size, 6, none⟩ = some (.int .u8 (F 2)) ∧ W.cell? ⟨w.heap.size, 7, none⟩ = some (.int .u8 (T 2 0)) ∧ W.cell? ⟨w.heap.size, 8, none⟩ = some (.int .u8 (T 2 1)) ∧ W.cell? ⟨w.heap.size, 9, none⟩ = some (.int .u8 (F 3)) ∧ W.cell? ⟨w.heap.size, 10, none⟩ = some (.int .u8 (T 3 0)) ∧ W.cell? ⟨w.heap.size, 11, none⟩ = some (.int .u8 (T 3 1)) ∧ Hid (Below w3.heap.size w3 W)) (first | assumption | (refine ⟨?_, ?_, ?_, ?_, ?_, ?_, ?_, ?_, ?_, ?_, ?_, ?_, ?_, ?_⟩ <;> assumption) | go_keep)
                (first
                  | (go_at_call 76; refine (HAF.out 2 (by decide) false (bits .andNot .u8 15 zx) _).mono ?_; rintro r w5 ⟨rfl, hb⟩; obtain ⟨g1, g0, g2, g3, g4, g5, g6, g7, g8, g9, g10, g11, g12, g13⟩ := HKP.out _ _ (by assumption) hb))
              have HBz := Lib.hid (HBA.out.trans (g13.out.mono HBA.out.size))
              have HBW5 := Lib.hid (HBW.out.trans (g13.out.mono HBW.out.size))
              clear hb g0 g1 g2 g3 g4 g5 g6 g7 g8 g9 g10 g11 g12 g13 b0 b1 b2 b3 b4 b5 hd3
              clear c0 c1 c2 c3 c4 c5 c6 c7 c8 c9 c10 c11
              have HOWx := Lib.hid (own_keep1 HOW.out (fun g hg => (HBz.out.block g (HOW.out.lt g hg).2)))
              have hown := HOWx.out
              have hsz3 := HBW5.out.size
              go_wp2_with (at_builtin; refine wpList_append_own _ rfl _ _ 83 rfl w2.heap.size 5 i0 (.int .u8 0) 1 1 Tryd.underlying83 hi hz0 hz1 hz2 rfl (by decide) _ _ _ rfl (hown.alloc _) ⟨w5.heap.size, 0, none⟩ 1 1 [.int .u8 (bits .andNot .u8 15 (outI false (b0G 2) (b1G 2) T (bits .andNot .u8 15 zx) 4))] rfl rfl ?k1 ?k2 ?k3 ?k4 ?k5 ?_)
              case k2 => intro u hu; simp at hu; subst hu; rfl
              case k3 => unfold maxLen; omega
              case k4 => omega
              case k5 => simp; omega
              case k1 =>
                intro j' u hj'
                match j', hj' with
                | 0, hj' => simp at hj'; subst hj'; simp [Addr.add]
              · intro v' w9 hown' hgrow _
                have HL9 : Hid (w9.ownsRow w2.heap.size 5 1 v' (j + 1) (u8s ln)) := Lib.hid (by
                  have e9 : u8s ln = u8s l ++ [.int .u8 (bits .andNot .u8 15 (afG T 2 false (bits .andNot .u8 15 zx)))] := by
                    unfold u8s
                    rw [HE.out, List.map_append]
                    rfl
                  rw [e9]; exact hown')
                have HB9 : Hid (Below w2.heap.size w2 w9) := Lib.hid ((HBW5.out.alloc (by omega) _).grown hgrow (by simp; omega) (fun g hg => (HOWx.out.lt g hg).1))
                clear hown' hgrow hown
                go_wp2
                go_roundw
                case rel => exact ⟨j + 1, by omega, by go_num, by rw [HLN.out]; exact HL9, HB9⟩
                case measure => first | (simp [intOf]; done) | (simp [intOf]; omega)
      · as_aux_lemma =>
          rcases HSN.out.2.2.2.2 (by decide) with rfl | rfl | rfl
          · as_aux_lemma =>
              obtain ⟨kx, hkx⟩ : ∃ k : Nat, x = (k : Int) := ⟨x.toNat, by have := (opsOk_x HOP.out rfl).1; dsimp only at this; omega⟩
              subst hkx
              have hltx : kx < j := by have := (opsOk_x HOP.out rfl).2; dsimp only at this; omega
              have HE : Hid (ln = l ++ [afG T 1 false (l.getD kx 0)]) := Lib.hid (by rw [HEXT.out]; rfl)
              have HBX := Lib.hid (Box.made wr ⟨11, i, e, 1, (kx : Int), yy⟩ 62)
              have HBA : Hid (Below wr.heap.size wr (wr.alloc (.cells #[.int .i64 11, .int .i64 i, .int .i64 e, .int .i64 1, .int .i64 (kx : Int), .int .i64 yy] 62))) := Lib.hid ((Below.refl _ wr).alloc (Nat.le_refl _) _)
              have HSA : Hid (wr.heap.size < (wr.alloc (.cells #[.int .i64 11, .int .i64 i, .int .i64 e, .int .i64 1, .int .i64 (kx : Int), .int .i64 yy] 62)).heap.size) := Lib.hid (by simp)
              go_wp2_with fail
              refine (HUX.out _).mono ?_
              rintro r w4 ⟨rfl, rfl⟩
              generalize wr.alloc (.cells #[.int .i64 11, .int .i64 i, .int .i64 e, .int .i64 1, .int .i64 (kx : Int), .int .i64 yy] 62) = w3 at *
              have HBW := Lib.hid (HBI.out.trans (HBA.out.mono hsz))
              have HCM := Lib.hid ((HBW.out.block _ HS2.out).trans HC2.out)
              clear m0 m1 m2 m3 m4 m5 l1 l2 l3 l4 l5
              obtain ⟨b0, b1, b2, b3, b4, b5, _⟩ := HBX.out
              obtain ⟨ad, rfl, _, hcx⟩ := (HRU.out w3 HBA.out).u8_at hltx
              generalize l.getD kx 0 = zx at *
              go_wp2_with fail
              refine (HUY.out _).mono ?_
              rintro r w4 ⟨rfl, rfl⟩
              have hcell := Lib.cell_of_heap HCM.out
              have c0 := hcell 0
              have c1 := hcell 1
              have c2 := hcell 2
              have c3 := hcell 3
              have c4 := hcell 4
              have c5 := hcell 5
              have c6 := hcell 6
              have c7 := hcell 7
              have c8 := hcell 8
              have c9 := hcell 9
              have c10 := hcell 10
              have c11 := hcell 11
              clear hcell
              simp at c0 c1 c2 c3 c4 c5 c6 c7 c8 c9 c10 c11
              go_wp2_with fail
              refine (HAF.out 1 (by decide) false zx w3).mono ?_
              rintro r w5 ⟨rfl, hb⟩
              have HBz := Lib.hid (HBA.out.trans (hb.mono HBA.out.size))
              have HBW5 := Lib.hid (HBW.out.trans (hb.mono HBW.out.size))
              clear hb b0 b1 b2 b3 b4 b5
              clear c0 c1 c2 c3 c4 c5 c6 c7 c8 c9 c10 c11
              have HOWx := Lib.hid (own_keep1 HOW.out (fun g hg => (HBz.out.block g (HOW.out.lt g hg).2)))
              have hown := HOWx.out
              have hsz3 := HBW5.out.size
              go_wp2_with (at_builtin; refine wpList_append_own _ rfl _ _ 83 rfl w2.heap.size 5 i0 (.int .u8 0) 1 1 Tryd.underlying83 hi hz0 hz1 hz2 rfl (by decide) _ _ _ rfl (hown.alloc _) ⟨w5.heap.size, 0, none⟩ 1 1 [.int .u8 (outI false (b0G 1) (b1G 1) T zx 4)] rfl rfl ?k1 ?k2 ?k3 ?k4 ?k5 ?_)
              case k2 => intro u hu; simp at hu; subst hu; rfl
              case k3 => unfold maxLen; omega
              case k4 => omega
              case k5 => simp; omega
              case k1 =>
                intro j' u hj'
                match j', hj' with
                | 0, hj' => simp at hj'; subst hj'; simp [Addr.add]
              · intro v' w9 hown' hgrow _
                have HL9 : Hid (w9.ownsRow w2.heap.size 5 1 v' (j + 1) (u8s ln)) := Lib.hid (by
                  have e9 : u8s ln = u8s l ++ [.int .u8 (afG T 1 false zx)] := by
                    unfold u8s
                    rw [HE.out, List.map_append]
                    rfl
                  rw [e9]; exact hown')
                have HB9 : Hid (Below w2.heap.size w2 w9) := Lib.hid ((HBW5.out.alloc (by omega) _).grown hgrow (by simp; omega) (fun g hg => (HOWx.out.lt g hg).1))
                clear hown' hgrow hown
                go_wp2
                go_roundw
                case rel => exact ⟨j + 1, by omega, by go_num, by rw [HLN.out]; exact HL9, HB9⟩
                case measure => first | (simp [intOf]; done) | (simp [intOf]; omega)
          · as_aux_lemma =>
              obtain ⟨kx, hkx⟩ : ∃ k : Nat, x = (k : Int) := ⟨x.toNat, by have := (opsOk_x HOP.out rfl).1; dsimp only at this; omega⟩
              subst hkx
              have hltx : kx < j := by have := (opsOk_x HOP.out rfl).2; dsimp only at this; omega
              have HE : Hid (ln = l ++ [afG T 2 false (l.getD kx 0)]) := Lib.hid (by rw [HEXT.out]; rfl)
              have HBX := Lib.hid (Box.made wr ⟨11, i, e, 2, (kx : Int), yy⟩ 62)
              have HBA : Hid (Below wr.heap.size wr (wr.alloc (.cells #[.int .i64 11, .int .i64 i, .int .i64 e, .int .i64 2, .int .i64 (kx : Int), .int .i64 yy] 62))) := Lib.hid ((Below.refl _ wr).alloc (Nat.le_refl _) _)
              have HSA : Hid (wr.heap.size < (wr.alloc (.cells #[.int .i64 11, .int .i64 i, .int .i64 e, .int .i64 2, .int .i64 (kx : Int), .int .i64 yy] 62)).heap.size) := Lib.hid (by simp)
              go_wp2_with fail
              refine (HUX.out _).mono ?_
              rintro r w4 ⟨rfl, rfl⟩
              generalize wr.alloc (.cells #[.int .i64 11, .int .i64 i, .int .i64 e, .int .i64 2, .int .i64 (kx : Int), .int .i64 yy] 62) = w3 at *
              have HBW := Lib.hid (HBI.out.trans (HBA.out.mono hsz))
              have HCM := Lib.hid ((HBW.out.block _ HS2.out).trans HC2.out)
              clear m0 m1 m2 m3 m4 m5 l1 l2 l3 l4 l5
              obtain ⟨b0, b1, b2, b3, b4, b5, _⟩ := HBX.out
              obtain ⟨ad, rfl, _, hcx⟩ := (HRU.out w3 HBA.out).u8_at hltx
              generalize l.getD kx 0 = zx at *
              go_wp2_with fail
              refine (HUY.out _).mono ?_
              rintro r w4 ⟨rfl, rfl⟩
              have hcell := Lib.cell_of_heap HCM.out
              have c0 := hcell 0
              have c1 := hcell 1
              have c2 := hcell 2
              have c3 := hcell 3
              have c4 := hcell 4
              have c5 := hcell 5
              have c6 := hcell 6
              have c7 := hcell 7
              have c8 := hcell 8
              have c9 := hcell 9
              have c10 := hcell 10
              have c11 := hcell 11
              clear hcell
              simp at c0 c1 c2 c3 c4 c5 c6 c7 c8 c9 c10 c11
              go_wp2_with fail
              refine (HAF.out 2 (by decide) false zx w3).mono ?_
              rintro r w5 ⟨rfl, hb⟩
              have HBz := Lib.hid (HBA.out.trans (hb.mono HBA.out.size))
              have HBW5 := Lib.hid (HBW.out.trans (hb.mono HBW.out.size))
              clear hb b0 b1 b2 b3 b4 b5
              clear c0 c1 c2 c3 c4 c5 c6 c7 c8 c9 c10 c11
              have HOWx := Lib.hid (own_keep1 HOW.out (fun g hg => (HBz.out.block g (HOW.out.lt g hg).2)))
              have hown := HOWx.out
              have hsz3 := HBW5.out.size
              go_wp2_with (at_builtin; refine wpList_append_own _ rfl _ _ 83 rfl w2.heap.size 5 i0 (.int .u8 0) 1 1 Tryd.underlying83 hi hz0 hz1 hz2 rfl (by decide) _ _ _ rfl (hown.alloc _) ⟨w5.heap.size, 0, none⟩ 1 1 [.int .u8 (outI false (b0G 2) (b1G 2) T zx 4)] rfl rfl ?k1 ?k2 ?k3 ?k4 ?k5 ?_)
              case k2 => intro u hu; simp at hu; subst hu; rfl
              case k3 => unfold maxLen; omega
              case k4 => omega
              case k5 => simp; omega
              case k1 =>
                intro j' u hj'
                match j', hj' with
                | 0, hj' => simp at hj'; subst hj'; simp [Addr.add]
              · intro v' w9 hown' hgrow _
                have HL9 : Hid (w9.ownsRow w2.heap.size 5 1 v' (j + 1) (u8s ln)) := Lib.hid (by
                  have e9 : u8s ln = u8s l ++ [.int .u8 (afG T 2 false zx)] := by
                    unfold u8s
                    rw [HE.out, List.map_append]
                    rfl
                  rw [e9]; exact hown')
                have HB9 : Hid (Below w2.heap.size w2 w9) := Lib.hid ((HBW5.out.alloc (by omega) _).grown hgrow (by simp; omega) (fun g hg => (HOWx.out.lt g hg).1))
                clear hown' hgrow hown
                go_wp2
                go_roundw
                case rel => exact ⟨j + 1, by omega, by go_num, by rw [HLN.out]; exact HL9, HB9⟩
                case measure => first | (simp [intOf]; done) | (simp [intOf]; omega)
          · as_aux_lemma =>
              obtain ⟨kx, hkx⟩ : ∃ k : Nat, x = (k : Int) := ⟨x.toNat, by have := (opsOk_x HOP.out rfl).1; dsimp only at this; omega⟩
              subst hkx
              have hltx : kx < j := by have := (opsOk_x HOP.out rfl).2; dsimp only at this; omega
              have HE : Hid (ln = l ++ [afG T 3 false (l.getD kx 0)]) := Lib.hid (by rw [HEXT.out]; rfl)
              have HBX := Lib.hid (Box.made wr ⟨11, i, e, 3, (kx : Int), yy⟩ 62)
              have HBA : Hid (Below wr.heap.size wr (wr.alloc (.cells #[.int .i64 11, .int .i64 i, .int .i64 e, .int .i64 3, .int .i64 (kx : Int), .int .i64 yy] 62))) := Lib.hid ((Below.refl _ wr).alloc (Nat.le_refl _) _)
              have HSA : Hid (wr.heap.size < (wr.alloc (.cells #[.int .i64 11, .int .i64 i, .int .i64 e, .int .i64 3, .int .i64 (kx : Int), .int .i64 yy] 62)).heap.size) := Lib.hid (by simp)
              go_wp2_with fail
              refine (HUX.out _).mono ?_
              rintro r w4 ⟨rfl, rfl⟩
              generalize wr.alloc (.cells #[.int .i64 11, .int .i64 i, .int .i64 e, .int .i64 3, .int .i64 (kx : Int), .int .i64 yy] 62) = w3 at *
              have HBW := Lib.hid (HBI.out.trans (HBA.out.mono hsz))
              have HCM := Lib.hid ((HBW.out.block _ HS2.out).trans HC2.out)
              clear m0 m1 m2 m3 m4 m5 l1 l2 l3 l4 l5
              obtain ⟨b0, b1, b2, b3, b4, b5, _⟩ := HBX.out
              obtain ⟨ad, rfl, _, hcx⟩ := (HRU.out w3 HBA.out).u8_at hltx
              generalize l.getD kx 0 = zx at *
              go_wp2_with fail
              refine (HUY.out _).mono ?_
              rintro r w4 ⟨rfl, rfl⟩
              have hcell := Lib.cell_of_heap HCM.out
              have c0 := hcell 0
              have c1 := hcell 1
              have c2 := hcell 2
              have c3 := hcell 3
              have c4 := hcell 4
              have c5 := hcell 5
              have c6 := hcell 6
              have c7 := hcell 7
              have c8 := hcell 8
              have c9 := hcell 9
              have c10 := hcell 10
              have c11 := hcell 11
              clear hcell
              simp at c0 c1 c2 c3 c4 c5 c6 c7 c8 c9 c10 c11
              go_wp2_with fail
              refine (HAF.out 3 (by decide) false zx w3).mono ?_
              rintro r w5 ⟨rfl, hb⟩
              have HBz := Lib.hid (HBA.out.trans (hb.mono HBA.out.size))
              have HBW5 := Lib.hid (HBW.out.trans (hb.mono HBW.out.size))
              clear hb b0 b1 b2 b3 b4 b5
              clear c0 c1 c2 c3 c4 c5 c6 c7 c8 c9 c10 c11
              have HOWx := Lib.hid (own_keep1 HOW.out (fun g hg => (HBz.out.block g (HOW.out.lt g hg).2)))
              have hown := HOWx.out
              have hsz3 := HBW5.out.size
              go_wp2_with (at_builtin; refine wpList_append_own _ rfl _ _ 83 rfl w2.heap.size 5 i0 (.int .u8 0) 1 1 Tryd.underlying83 hi hz0 hz1 hz2 rfl (by decide) _ _ _ rfl (hown.alloc _) ⟨w5.heap.size, 0, none⟩ 1 1 [.int .u8 (outI false (b0G 3) (b1G 3) T zx 4)] rfl rfl ?k1 ?k2 ?k3 ?k4 ?k5 ?_)
              case k2 => intro u hu; simp at hu; subst hu; rfl
              case k3 => unfold maxLen; omega
              case k4 => omega
              case k5 => simp; omega
              case k1 =>
                intro j' u hj'
                match j', hj' with
                | 0, hj' => simp at hj'; subst hj'; simp [Addr.add]
              · intro v' w9 hown' hgrow _
                have HL9 : Hid (w9.ownsRow w2.heap.size 5 1 v' (j + 1) (u8s ln)) := Lib.hid (by
                  have e9 : u8s ln = u8s l ++ [.int .u8 (afG T 3 false zx)] := by
                    unfold u8s
                    rw [HE.out, List.map_append]
                    rfl
                  rw [e9]; exact hown')
                have HB9 : Hid (Below w2.heap.size w2 w9) := Lib.hid ((HBW5.out.alloc (by omega) _).grown hgrow (by simp; omega) (fun g hg => (HOWx.out.lt g hg).1))
                clear hown' hgrow hown
                go_wp2
                go_roundw
                case rel => exact ⟨j + 1, by omega, by go_num, by rw [HLN.out]; exact HL9, HB9⟩
                case measure => first | (simp [intOf]; done) | (simp [intOf]; omega)
      · as_aux_lemma =>
          rcases HSN.out.2.2.2.2 (by decide) with rfl | rfl | rfl
          · as_aux_lemma =>
              obtain ⟨kx, hkx⟩ : ∃ k : Nat, x = (k : Int) := ⟨x.toNat, by have := (opsOk_x HOP.out rfl).1; dsimp only at this; omega⟩
              subst hkx
              have hltx : kx < j := by have := (opsOk_x HOP.out rfl).2; dsimp only at this; omega
              have HE : Hid (ln = l ++ [afG T 1 true (l.getD kx 0)]) := Lib.hid (by rw [HEXT.out]; rfl)
              have HBX := Lib.hid (Box.made wr ⟨12, i, e, 1, (kx : Int), yy⟩ 62)
              have HBA : Hid (Below wr.heap.size wr (wr.alloc (.cells #[.int .i64 12, .int .i64 i, .int .i64 e, .int .i64 1, .int .i64 (kx : Int), .int .i64 yy] 62))) := Lib.hid ((Below.refl _ wr).alloc (Nat.le_refl _) _)
              have HSA : Hid (wr.heap.size < (wr.alloc (.cells #[.int .i64 12, .int .i64 i, .int .i64 e, .int .i64 1, .int .i64 (kx : Int), .int .i64 yy] 62)).heap.size) := Lib.hid (by simp)
              go_wp2_with fail
              refine (HUX.out _).mono ?_
              rintro r w4 ⟨rfl, rfl⟩
              generalize wr.alloc (.cells #[.int .i64 12, .int .i64 i, .int .i64 e, .int .i64 1, .int .i64 (kx : Int), .int .i64 yy] 62) = w3 at *
              have HBW := Lib.hid (HBI.out.trans (HBA.out.mono hsz))
              have HCM := Lib.hid ((HBW.out.block _ HS2.out).trans HC2.out)
              clear m0 m1 m2 m3 m4 m5 l1 l2 l3 l4 l5
              obtain ⟨b0, b1, b2, b3, b4, b5, _⟩ := HBX.out
              obtain ⟨ad, rfl, _, hcx⟩ := (HRU.out w3 HBA.out).u8_at hltx
              generalize l.getD kx 0 = zx at *
              go_wp2_with fail
              refine (HUY.out _).mono ?_
              rintro r w4 ⟨rfl, rfl⟩
              have hcell := Lib.cell_of_heap HCM.out
              have c0 := hcell 0
              have c1 := hcell 1
              have c2 := hcell 2
              have c3 := hcell 3
              have c4 := hcell 4
              have c5 := hcell 5
              have c6 := hcell 6
              have c7 := hcell 7
              have c8 := hcell 8
              have c9 := hcell 9
              have c10 := hcell 10
              have c11 := hcell 11
              clear hcell
              simp at c0 c1 c2 c3 c4 c5 c6 c7 c8 c9 c10 c11
              go_wp2_with fail
              refine (HAF.out 1 (by decide) true zx w3).mono ?_
              rintro r w5 ⟨rfl, hb⟩
              have HBz := Lib.hid (HBA.out.trans (hb.mono HBA.out.size))
              have HBW5 := Lib.hid (HBW.out.trans (hb.mono HBW.out.size))
              clear hb b0 b1 b2 b3 b4 b5
              clear c0 c1 c2 c3 c4 c5 c6 c7 c8 c9 c10 c11
              have HOWx := Lib.hid (own_keep1 HOW.out (fun g hg => (HBz.out.block g (HOW.out.lt g hg).2)))
              have hown := HOWx.out
              have hsz3 := HBW5.out.size
              go_wp2_with (at_builtin; refine wpList_append_own _ rfl _ _ 83 rfl w2.heap.size 5 i0 (.int .u8 0) 1 1 Tryd.underlying83 hi hz0 hz1 hz2 rfl (by decide) _ _ _ rfl (hown.alloc _) ⟨w5.heap.size, 0, none⟩ 1 1 [.int .u8 (outI true (b0G 1) (b1G 1) T zx 4)] rfl rfl ?k1 ?k2 ?k3 ?k4 ?k5 ?_)
              case k2 => intro u hu; simp at hu; subst hu; rfl
              case k3 => unfold maxLen; omega
              case k4 => omega
              case k5 => simp; omega
              case k1 =>
                intro j' u hj'
                match j', hj' with
                | 0, hj' => simp at hj'; subst hj'; simp [Addr.add]
              · intro v' w9 hown' hgrow _
                have HL9 : Hid (w9.ownsRow w2.heap.size 5 1 v' (j + 1) (u8s ln)) := Lib.hid (by
                  have e9 : u8s ln = u8s l ++ [.int .u8 (afG T 1 true zx)] := by
                    unfold u8s
                    rw [HE.out, List.map_append]
                    rfl
                  rw [e9]; exact hown')
                have HB9 : Hid (Below w2.heap.size w2 w9) := Lib.hid ((HBW5.out.alloc (by omega) _).grown hgrow (by simp; omega) (fun g hg => (HOWx.out.lt g hg).1))
                clear hown' hgrow hown
                go_wp2
                go_roundw
                case rel => exact ⟨j + 1, by omega, by go_num, by rw [HLN.out]; exact HL9, HB9⟩
                case measure => first | (simp [intOf]; done) | (simp [intOf]; omega)
          · as_aux_lemma =>
              obtain ⟨kx, hkx⟩ : ∃ k : Nat, x = (k : Int) := ⟨x.toNat, by have := (opsOk_x HOP.out rfl).1; dsimp only at this; omega⟩
              subst hkx
              have hltx : kx < j := by have := (opsOk_x HOP.out rfl).2; dsimp only at this; omega
              have HE : Hid (ln = l ++ [afG T 2 true (l.getD kx 0)]) := Lib.hid (by rw [HEXT.out]; rfl)
              have HBX := Lib.hid (Box.made wr ⟨12, i, e, 2, (kx : Int), yy⟩ 62)
              have HBA : Hid (Below wr.heap.size wr (wr.alloc (.cells #[.int .i64 12, .int .i64 i, .int .i64 e, .int .i64 2, .int .i64 (kx : Int), .int .i64 yy] 62))) := Lib.hid ((Below.refl _ wr).alloc (Nat.le_refl _) _)
              have HSA : Hid (wr.heap.size < (wr.alloc (.cells #[.int .i64 12, .int .i64 i, .int .i64 e, .int .i64 2, .int .i64 (kx : Int), .int .i64 yy] 62)).heap.size) := Lib.hid (by simp)
              go_wp2_with fail
              refine (HUX.out _).mono ?_
              rintro r w4 ⟨rfl, rfl⟩
              generalize wr.alloc (.cells #[.int .i64 12, .int .i64 i, .int .i64 e, .int .i64 2, .int .i64 (kx : Int), .int .i64 yy] 62) = w3 at *
              have HBW := Lib.hid (HBI.out.trans (HBA.out.mono hsz))
              have HCM := Lib.hid ((HBW.out.block _ HS2.out).trans HC2.out)
              clear m0 m1 m2 m3 m4 m5 l1 l2 l3 l4 l5
              obtain ⟨b0, b1, b2, b3, b4, b5, _⟩ := HBX.out
              obtain ⟨ad, rfl, _, hcx⟩ := (HRU.out w3 HBA.out).u8_at hltx
              generalize l.getD kx 0 = zx at *
              go_wp2_with fail
              refine (HUY.out _).mono ?_
              rintro r w4 ⟨rfl, rfl⟩
              have hcell := Lib.cell_of_heap HCM.out
              have c0 := hcell 0
              have c1 := hcell 1
              have c2 := hcell 2
              have c3 := hcell 3
              have c4 := hcell 4
              have c5 := hcell 5
              have c6 := hcell 6
              have c7 := hcell 7
              have c8 := hcell 8
              have c9 := hcell 9
              have c10 := hcell 10
              have c11 := hcell 11
              clear hcell
              simp at c0 c1 c2 c3 c4 c5 c6 c7 c8 c9 c10 c11
              go_wp2_with fail
              refine (HAF.out 2 (by decide) true zx w3).mono ?_
              rintro r w5 ⟨rfl, hb⟩
              have HBz := Lib.hid (HBA.out.trans (hb.mono HBA.out.size))
              have HBW5 := Lib.hid (HBW.out.trans (hb.mono HBW.out.size))
              clear hb b0 b1 b2 b3 b4 b5
              clear c0 c1 c2 c3 c4 c5 c6 c7 c8 c9 c10 c11
              have HOWx := Lib.hid (own_keep1 HOW.out (fun g hg => (HBz.out.block g (HOW.out.lt g hg).2)))
              have hown := HOWx.out
              have hsz3 := HBW5.out.size
              go_wp2_with (at_builtin; refine wpList_append_own _ rfl _ _ 83 rfl w2.heap.size 5 i0 (.int .u8 0) 1 1 Tryd.underlying83 hi hz0 hz1 hz2 rfl (by decide) _ _ _ rfl (hown.alloc _) ⟨w5.heap.size, 0, none⟩ 1 1 [.int .u8 (outI true (b0G 2) (b1G 2) T zx 4)] rfl rfl ?k1 ?k2 ?k3 ?k4 ?k5 ?_)
              case k2 => intro u hu; simp at hu; subst hu; rfl
              case k3 => unfold maxLen; omega
              case k4 => omega
              case k5 => simp; omega
              case k1 =>
                intro j' u hj'
                match j', hj' with
                | 0, hj' => simp at hj'; subst hj'; simp [Addr.add]
              · intro v' w9 hown' hgrow _
                have HL9 : Hid (w9.ownsRow w2.heap.size 5 1 v' (j + 1) (u8s ln)) := Lib.hid (by
                  have e9 : u8s ln = u8s l ++ [.int .u8 (afG T 2 true zx)] := by
                    unfold u8s
                    rw [HE.out, List.map_append]
                    rfl
                  rw [e9]; exact hown')
                have HB9 : Hid (Below w2.heap.size w2 w9) := Lib.hid ((HBW5.out.alloc (by omega) _).grown hgrow (by simp; omega) (fun g hg => (HOWx.out.lt g hg).1))
                clear hown' hgrow hown
                go_wp2
                go_roundw
                case rel => exact ⟨j + 1, by omega, by go_num, by rw [HLN.out]; exact HL9, HB9⟩
                case measure => first | (simp [intOf]; done) | (simp [intOf]; omega)
          · as_aux_lemma =>
              obtain ⟨kx, hkx⟩ : ∃ k : Nat, x = (k : Int) := ⟨x.toNat, by have := (opsOk_x HOP.out rfl).1; dsimp only at this; omega⟩
              subst hkx
              have hltx : kx < j := by have := (opsOk_x HOP.out rfl).2; dsimp only at this; omega
              have HE : Hid (ln = l ++ [afG T 3 true (l.getD kx 0)]) := Lib.hid (by rw [HEXT.out]; rfl)
              have HBX := Lib.hid (Box.made wr ⟨12, i, e, 3, (kx : Int), yy⟩ 62)
              have HBA : Hid (Below wr.heap.size wr (wr.alloc (.cells #[.int .i64 12, .int .i64 i, .int .i64 e, .int .i64 3, .int .i64 (kx : Int), .int .i64 yy] 62))) := Lib.hid ((Below.refl _ wr).alloc (Nat.le_refl _) _)
              have HSA : Hid (wr.heap.size < (wr.alloc (.cells #[.int .i64 12, .int .i64 i, .int .i64 e, .int .i64 3, .int .i64 (kx : Int), .int .i64 yy] 62)).heap.size) := Lib.hid (by simp)
              go_wp2_with fail
              refine (HUX.out _).mono ?_
              rintro r w4 ⟨rfl, rfl⟩
              generalize wr.alloc (.cells #[.int .i64 12, .int .i64 i, .int .i64 e, .int .i64 3, .int .i64 (kx : Int), .int .i64 yy] 62) = w3 at *
              have HBW := Lib.hid (HBI.out.trans (HBA.out.mono hsz))
              have HCM := Lib.hid ((HBW.out.block _ HS2.out).trans HC2.out)
              clear m0 m1 m2 m3 m4 m5 l1 l2 l3 l4 l5
              obtain ⟨b0, b1, b2, b3, b4, b5, _⟩ := HBX.out
              obtain ⟨ad, rfl, _, hcx⟩ := (HRU.out w3 HBA.out).u8_at hltx
              generalize l.getD kx 0 = zx at *
              go_wp2_with fail
              refine (HUY.out _).mono ?_
              rintro r w4 ⟨rfl, rfl⟩
              have hcell := Lib.cell_of_heap HCM.out
              have c0 := hcell 0
              have c1 := hcell 1
              have c2 := hcell 2
              have c3 := hcell 3
              have c4 := hcell 4
              have c5 := hcell 5
              have c6 := hcell 6
              have c7 := hcell 7
              have c8 := hcell 8
              have c9 := hcell 9
              have c10 := hcell 10
              have c11 := hcell 11
              clear hcell
              simp at c0 c1 c2 c3 c4 c5 c6 c7 c8 c9 c10 c11
              go_wp2_with fail
              refine (HAF.out 3 (by decide) true zx w3).mono ?_
              rintro r w5 ⟨rfl, hb⟩
              have HBz := Lib.hid (HBA.out.trans (hb.mono HBA.out.size))
              have HBW5 := Lib.hid (HBW.out.trans (hb.mono HBW.out.size))
              clear hb b0 b1 b2 b3 b4 b5
              clear c0 c1 c2 c3 c4 c5 c6 c7 c8 c9 c10 c11
              have HOWx := Lib.hid (own_keep1 HOW.out (fun g hg => (HBz.out.block g (HOW.out.lt g hg).2)))
              have hown := HOWx.out
              have hsz3 := HBW5.out.size
              go_wp2_with (at_builtin; refine wpList_append_own _ rfl _ _ 83 rfl w2.heap.size 5 i0 (.int .u8 0) 1 1 Tryd.underlying83 hi hz0 hz1 hz2 rfl (by decide) _ _ _ rfl (hown.alloc _) ⟨w5.heap.size, 0, none⟩ 1 1 [.int .u8 (outI true (b0G 3) (b1G 3) T zx 4)] rfl rfl ?k1 ?k2 ?k3 ?k4 ?k5 ?_)
              case k2 => intro u hu; simp at hu; subst hu; rfl
              case k3 => unfold maxLen; omega
              case k4 => omega
              case k5 => simp; omega
              case k1 =>
                intro j' u hj'
                match j', hj' with
                | 0, hj' => simp at hj'; subst hj'; simp [Addr.add]
              · intro v' w9 hown' hgrow _
                have HL9 : Hid (w9.ownsRow w2.heap.size 5 1 v' (j + 1) (u8s ln)) := Lib.hid (by
                  have e9 : u8s ln = u8s l ++ [.int .u8 (afG T 3 true zx)] := by
                    unfold u8s
                    rw [HE.out, List.map_append]
                    rfl
                  rw [e9]; exact hown')
                have HB9 : Hid (Below w2.heap.size w2 w9) := Lib.hid ((HBW5.out.alloc (by omega) _).grown hgrow (by simp; omega) (fun g hg => (HOWx.out.lt g hg).1))
                clear hown' hgrow hown
                go_wp2
                go_roundw
                case rel => exact ⟨j + 1, by omega, by go_num, by rw [HLN.out]; exact HL9, HB9⟩
                case measure => first | (simp [intOf]; done) | (simp [intOf]; omega)
      · as_aux_lemma =>
          rcases HSN.out.2.2.2.2 (by decide) with rfl | rfl | rfl
          · as_aux_lemma =>
              obtain ⟨kx, hkx⟩ : ∃ k : Nat, x = (k : Int) := ⟨x.toNat, by have := (opsOk_x HOP.out rfl).1; dsimp only at this; omega⟩
              subst hkx
              have hltx : kx < j := by have := (opsOk_x HOP.out rfl).2; dsimp only at this; omega
              obtain ⟨ky, hky⟩ : ∃ k : Nat, yy = (k : Int) := ⟨yy.toNat, by have := (opsOk_y HOP.out rfl).1; dsimp only at this; omega⟩
              subst hky
              have hlty : ky < j := by have := (opsOk_y HOP.out rfl).2; dsimp only at this; omega
              have HE : Hid (ln = l ++ [coG T 1 (l.getD kx 0) (l.getD ky 0)]) := Lib.hid (by rw [HEXT.out]; rfl)
              have HBX := Lib.hid (Box.made wr ⟨13, i, e, 1, (kx : Int), (ky : Int)⟩ 62)
              have HBA : Hid (Below wr.heap.size wr (wr.alloc (.cells #[.int .i64 13, .int .i64 i, .int .i64 e, .int .i64 1, .int .i64 (kx : Int), .int .i64 (ky : Int)] 62))) := Lib.hid ((Below.refl _ wr).alloc (Nat.le_refl _) _)
              have HSA : Hid (wr.heap.size < (wr.alloc (.cells #[.int .i64 13, .int .i64 i, .int .i64 e, .int .i64 1, .int .i64 (kx : Int), .int .i64 (ky : Int)] 62)).heap.size) := Lib.hid (by simp)
              go_wp2_with fail
              refine (HUX.out _).mono ?_
              rintro r w4 ⟨rfl, rfl⟩
              generalize wr.alloc (.cells #[.int .i64 13, .int .i64 i, .int .i64 e, .int .i64 1, .int .i64 (kx : Int), .int .i64 (ky : Int)] 62) = w3 at *
              have HBW := Lib.hid (HBI.out.trans (HBA.out.mono hsz))
              have HCM := Lib.hid ((HBW.out.block _ HS2.out).trans HC2.out)
              clear m0 m1 m2 m3 m4 m5 l1 l2 l3 l4 l5
              obtain ⟨b0, b1, b2, b3, b4, b5, _⟩ := HBX.out
              obtain ⟨ad, rfl, _, hcx⟩ := (HRU.out w3 HBA.out).u8_at hltx
              obtain ⟨ad', eay, _, hcy⟩ := (HRU.out w3 HBA.out).u8_at hlty
              obtain rfl : ad = ad' := Option.some.inj eay
              generalize l.getD kx 0 = zx at *
              generalize l.getD ky 0 = zy at *
              go_wp2_with fail
              refine (HUY.out _).mono ?_
              rintro r w4 ⟨rfl, rfl⟩
              have hcell := Lib.cell_of_heap HCM.out
              have c0 := hcell 0
              have c1 := hcell 1
              have c2 := hcell 2
              have c3 := hcell 3
              have c4 := hcell 4
              have c5 := hcell 5
              have c6 := hcell 6
              have c7 := hcell 7
              have c8 := hcell 8
              have c9 := hcell 9
              have c10 := hcell 10
              have c11 := hcell 11
              clear hcell
              simp at c0 c1 c2 c3 c4 c5 c6 c7 c8 c9 c10 c11
              go_wp2_with fail
              refine (HCO.out 1 (by decide) zx zy w3).mono ?_
              rintro r w5 ⟨rfl, hb⟩
              have HBz := Lib.hid (HBA.out.trans (hb.mono HBA.out.size))
              have HBW5 := Lib.hid (HBW.out.trans (hb.mono HBW.out.size))
              clear hb b0 b1 b2 b3 b4 b5
              clear c0 c1 c2 c3 c4 c5 c6 c7 c8 c9 c10 c11
              have HOWx := Lib.hid (own_keep1 HOW.out (fun g hg => (HBz.out.block g (HOW.out.lt g hg).2)))
              have hown := HOWx.out
              have hsz3 := HBW5.out.size
              go_wp2_with (at_builtin; refine wpList_append_own _ rfl _ _ 83 rfl w2.heap.size 5 i0 (.int .u8 0) 1 1 Tryd.underlying83 hi hz0 hz1 hz2 rfl (by decide) _ _ _ rfl (hown.alloc _) ⟨w5.heap.size, 0, none⟩ 1 1 [.int .u8 (comI (b0G 1) (b1G 1) T zx zy 5)] rfl rfl ?k1 ?k2 ?k3 ?k4 ?k5 ?_)
              case k2 => intro u hu; simp at hu; subst hu; rfl
              case k3 => unfold maxLen; omega
              case k4 => omega
              case k5 => simp; omega
              case k1 =>
                intro j' u hj'
                match j', hj' with
                | 0, hj' => simp at hj'; subst hj'; simp [Addr.add]
              · intro v' w9 hown' hgrow _
                have HL9 : Hid (w9.ownsRow w2.heap.size 5 1 v' (j + 1) (u8s ln)) := Lib.hid (by
                  have e9 : u8s ln = u8s l ++ [.int .u8 (coG T 1 zx zy)] := by
                    unfold u8s
                    rw [HE.out, List.map_append]
                    rfl
                  rw [e9]; exact hown')
                have HB9 : Hid (Below w2.heap.size w2 w9) := Lib.hid ((HBW5.out.alloc (by omega) _).grown hgrow (by simp; omega) (fun g hg => (HOWx.out.lt g hg).1))
                clear hown' hgrow hown
                go_wp2
                go_roundw
                case rel => exact ⟨j + 1, by omega, by go_num, by rw [HLN.out]; exact HL9, HB9⟩
                case measure => first | (simp [intOf]; done) | (simp [intOf]; omega)
          · as_aux_lemma =>
              obtain ⟨kx, hkx⟩ : ∃ k : Nat, x = (k : Int) := ⟨x.toNat, by have := (opsOk_x HOP.out rfl).1; dsimp only at this; omega⟩
              subst hkx
              have hltx : kx < j := by have := (opsOk_x HOP.out rfl).2; dsimp only at this; omega
              obtain ⟨ky, hky⟩ : ∃ k : Nat, yy = (k : Int) := ⟨yy.toNat, by have := (opsOk_y HOP.out rfl).1; dsimp only at this; omega⟩
              subst hky
              have hlty : ky < j := by have := (opsOk_y HOP.out rfl).2; dsimp only at this; omega
              have HE : Hid (ln = l ++ [coG T 2 (l.getD kx 0) (l.getD ky 0)]) := Lib.hid (by rw [HEXT.out]; rfl)
              have HBX := Lib.hid (Box.made wr ⟨13, i, e, 2, (kx : Int), (ky : Int)⟩ 62)
              have HBA : Hid (Below wr.heap.size wr (wr.alloc (.cells #[.int .i64 13, .int .i64 i, .int .i64 e, .int .i64 2, .int .i64 (kx : Int), .int .i64 (ky : Int)] 62))) := Lib.hid ((Below.refl _ wr).alloc (Nat.le_refl _) _)
              have HSA : Hid (wr.heap.size < (wr.alloc (.cells #[.int .i64 13, .int .i64 i, .int .i64 e, .int .i64 2, .int .i64 (kx : Int), .int .i64 (ky : Int)] 62)).heap.size) := Lib.hid (by simp)
              go_wp2_with fail
              refine (HUX.out _).mono ?_
              rintro r w4 ⟨rfl, rfl⟩
              generalize wr.alloc (.cells #[.int .i64 13, .int .i64 i, .int .i64 e, .int .i64 2, .int .i64 (kx : Int), .int .i64 (ky : Int)] 62) = w3 at *
              have HBW := Lib.hid (HBI.out.trans (HBA.out.mono hsz))
              have HCM := Lib.hid ((HBW.out.block _ HS2.out).trans HC2.out)
              clear m0 m1 m2 m3 m4 m5 l1 l2 l3 l4 l5
              obtain ⟨b0, b1, b2, b3, b4, b5, _⟩ := HBX.out
              obtain ⟨ad, rfl, _, hcx⟩ := (HRU.out w3 HBA.out).u8_at hltx
              obtain ⟨ad', eay, _, hcy⟩ := (HRU.out w3 HBA.out).u8_at hlty
              obtain rfl : ad = ad' := Option.some.inj eay
              generalize l.getD kx 0 = zx at *
              generalize l.getD ky 0 = zy at *
              go_wp2_with fail
              refine (HUY.out _).mono ?_
              rintro r w4 ⟨rfl, rfl⟩
              have hcell := Lib.cell_of_heap HCM.out
              have c0 := hcell 0
              have c1 := hcell 1
              have c2 := hcell 2
              have c3 := hcell 3
              have c4 := hcell 4
              have c5 := hcell 5
              have c6 := hcell 6
              have c7 := hcell 7
              have c8 := hcell 8
              have c9 := hcell 9
              have c10 := hcell 10
              have c11 := hcell 11
              clear hcell
              simp at c0 c1 c2 c3 c4 c5 c6 c7 c8 c9 c10 c11
              go_wp2_with fail
              refine (HCO.out 2 (by decide) zx zy w3).mono ?_
              rintro r w5 ⟨rfl, hb⟩
              have HBz := Lib.hid (HBA.out.trans (hb.mono HBA.out.size))
              have HBW5 := Lib.hid (HBW.out.trans (hb.mono HBW.out.size))
              clear hb b0 b1 b2 b3 b4 b5
              clear c0 c1 c2 c3 c4 c5 c6 c7 c8 c9 c10 c11
              have HOWx := Lib.hid (own_keep1 HOW.out (fun g hg => (HBz.out.block g (HOW.out.lt g hg).2)))
              have hown := HOWx.out
              have hsz3 := HBW5.out.size
              go_wp2_with (at_builtin; refine wpList_append_own _ rfl _ _ 83 rfl w2.heap.size 5 i0 (.int .u8 0) 1 1 Tryd.underlying83 hi hz0 hz1 hz2 rfl (by decide) _ _ _ rfl (hown.alloc _) ⟨w5.heap.size, 0, none⟩ 1 1 [.int .u8 (comI (b0G 2) (b1G 2) T zx zy 5)] rfl rfl ?k1 ?k2 ?k3 ?k4 ?k5 ?_)
              case k2 => intro u hu; simp at hu; subst hu; rfl
              case k3 => unfold maxLen; omega
              case k4 => omega
              case k5 => simp; omega
              case k1 =>
                intro j' u hj'
                match j', hj' with
                | 0, hj' => simp at hj'; subst hj'; simp [Addr.add]
              · intro v' w9 hown' hgrow _
                have HL9 : Hid (w9.ownsRow w2.heap.size 5 1 v' (j + 1) (u8s ln)) := Lib.hid (by
                  have e9 : u8s ln = u8s l ++ [.int .u8 (coG T 2 zx zy)] := by
                    unfold u8s
                    rw [HE.out, List.map_append]
                    rfl
                  rw [e9]; exact hown')
                have HB9 : Hid (Below w2.heap.size w2 w9) := Lib.hid ((HBW5.out.alloc (by omega) _).grown hgrow (by simp; omega) (fun g hg => (HOWx.out.lt g hg).1))
                clear hown' hgrow hown
                go_wp2
                go_roundw
                case rel => exact ⟨j + 1, by omega, by go_num, by rw [HLN.out]; exact HL9, HB9⟩
                case measure => first | (simp [intOf]; done) | (simp [intOf]; omega)
          · as_aux_lemma =>
              obtain ⟨kx, hkx⟩ : ∃ k : Nat, x = (k : Int) := ⟨x.toNat, by have := (opsOk_x HOP.out rfl).1; dsimp only at this; omega⟩
              subst hkx
              have hltx : kx < j := by have := (opsOk_x HOP.out rfl).2; dsimp only at this; omega
              obtain ⟨ky, hky⟩ : ∃ k : Nat, yy = (k : Int) := ⟨yy.toNat, by have := (opsOk_y HOP.out rfl).1; dsimp only at this; omega⟩
              subst hky
              have hlty : ky < j := by have := (opsOk_y HOP.out rfl).2; dsimp only at this; omega
              have HE : Hid (ln = l ++ [coG T 3 (l.getD kx 0) (l.getD ky 0)]) := Lib.hid (by rw [HEXT.out]; rfl)
              have HBX := Lib.hid (Box.made wr ⟨13, i, e, 3, (kx : Int), (ky : Int)⟩ 62)
              have HBA : Hid (Below wr.heap.size wr (wr.alloc (.cells #[.int .i64 13, .int .i64 i, .int .i64 e, .int .i64 3, .int .i64 (kx : Int), .int .i64 (ky : Int)] 62))) := Lib.hid ((Below.refl _ wr).alloc (Nat.le_refl _) _)
              have HSA : Hid (wr.heap.size < (wr.alloc (.cells #[.int .i64 13, .int .i64 i, .int .i64 e, .int .i64 3, .int .i64 (kx : Int), .int .i64 (ky : Int)] 62)).heap.size) := Lib.hid (by simp)
              go_wp2_with fail
              refine (HUX.out _).mono ?_
              rintro r w4 ⟨rfl, rfl⟩
              generalize wr.alloc (.cells #[.int .i64 13, .int .i64 i, .int .i64 e, .int .i64 3, .int .i64 (kx : Int), .int .i64 (ky : Int)] 62) = w3 at *
              have HBW := Lib.hid (HBI.out.trans (HBA.out.mono hsz))
              have HCM := Lib.hid ((HBW.out.block _ HS2.out).trans HC2.out)
              clear m0 m1 m2 m3 m4 m5 l1 l2 l3 l4 l5
              obtain ⟨b0, b1, b2, b3, b4, b5, _⟩ := HBX.out
              obtain ⟨ad, rfl, _, hcx⟩ := (HRU.out w3 HBA.out).u8_at hltx
              obtain ⟨ad', eay, _, hcy⟩ := (HRU.out w3 HBA.out).u8_at hlty
              obtain rfl : ad = ad' := Option.some.inj eay
              generalize l.getD kx 0 = zx at *
              generalize l.getD ky 0 = zy at *
              go_wp2_with fail
              refine (HUY.out _).mono ?_
              rintro r w4 ⟨rfl, rfl⟩
              have hcell := Lib.cell_of_heap HCM.out
              have c0 := hcell 0
              have c1 := hcell 1
              have c2 := hcell 2
              have c3 := hcell 3
              have c4 := hcell 4
              have c5 := hcell 5
              have c6 := hcell 6
              have c7 := hcell 7
              have c8 := hcell 8
              have c9 := hcell 9
              have c10 := hcell 10
              have c11 := hcell 11
              clear hcell
              simp at c0 c1 c2 c3 c4 c5 c6 c7 c8 c9 c10 c11
              go_wp2_with fail
              refine (HCO.out 3 (by decide) zx zy w3).mono ?_
              rintro r w5 ⟨rfl, hb⟩
              have HBz := Lib.hid (HBA.out.trans (hb.mono HBA.out.size))
              have HBW5 := Lib.hid (HBW.out.trans (hb.mono HBW.out.size))
              clear hb b0 b1 b2 b3 b4 b5
              clear c0 c1 c2 c3 c4 c5 c6 c7 c8 c9 c10 c11
              have HOWx := Lib.hid (own_keep1 HOW.out (fun g hg => (HBz.out.block g (HOW.out.lt g hg).2)))
              have hown := HOWx.out
              have hsz3 := HBW5.out.size
              go_wp2_with (at_builtin; refine wpList_append_own _ rfl _ _ 83 rfl w2.heap.size 5 i0 (.int .u8 0) 1 1 Tryd.underlying83 hi hz0 hz1 hz2 rfl (by decide) _ _ _ rfl (hown.alloc _) ⟨w5.heap.size, 0, none⟩ 1 1 [.int .u8 (comI (b0G 3) (b1G 3) T zx zy 5)] rfl rfl ?k1 ?k2 ?k3 ?k4 ?k5 ?_)
              case k2 => intro u hu; simp at hu; subst hu; rfl
              case k3 => unfold maxLen; omega
              case k4 => omega
              case k5 => simp; omega
              case k1 =>
                intro j' u hj'
                match j', hj' with
                | 0, hj' => simp at hj'; subst hj'; simp [Addr.add]
              · intro v' w9 hown' hgrow _
                have HL9 : Hid (w9.ownsRow w2.heap.size 5 1 v' (j + 1) (u8s ln)) := Lib.hid (by
                  have e9 : u8s ln = u8s l ++ [.int .u8 (coG T 3 zx zy)] := by
                    unfold u8s
                    rw [HE.out, List.map_append]
                    rfl
                  rw [e9]; exact hown')
                have HB9 : Hid (Below w2.heap.size w2 w9) := Lib.hid ((HBW5.out.alloc (by omega) _).grown hgrow (by simp; omega) (fun g hg => (HOWx.out.lt g hg).1))
                clear hown' hgrow hown
                go_wp2
                go_roundw
                case rel => exact ⟨j + 1, by omega, by go_num, by rw [HLN.out]; exact HL9, HB9⟩
                case measure => first | (simp [intOf]; done) | (simp [intOf]; omega)
    · obtain rfl : j = q.length := by omega
      obtain ⟨m, hm1⟩ : ∃ m, q.length = m + 1 := ⟨q.length - 1, by have := List.length_pos_iff.2 ok.out.ne; omega⟩
      have hmq : m < q.length := by omega
      obtain ⟨ad, rfl, _, hcm⟩ := (Reads.of_own HOW.out).u8_at hmq
      have HZ : Hid ((trL F T q q.length).getD (q.length - 1) 0 = (trL F T q q.length).getD m 0) := Lib.hid (by rw [show q.length - 1 = m from by omega])
      have hw1 : wrap64 ((q.length : Int) - 1) = (m : Int) := by unfold wrap64; omega
      have hw2 : IntKind.i64.wrap ((q.length : Int) - 1) = (m : Int) := by rw [IntKind.wrap_i64]; omega
      have hw3 : (q.length : Int) - 1 = (m : Int) := by omega
      have hw4 : wrap64 (m : Int) = (m : Int) := by unfold wrap64; omega
      have HBF := Lib.hid (HB2.out.trans (HBI.out.mono HB2.out.size))
      generalize (trL F T q q.length).getD m 0 = z at *
      clear hm1
      go_wp2
      go_ret2
      rw [HZ.out]
      exact ⟨rfl, HBF.out⟩
end Go.Proofs.YtkkkomkljpolbaaDoor
