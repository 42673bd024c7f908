/- Layer 5: Binary of the reference. -/
import Derived.Test.YtcbmncafmofcpaaMu
namespace Go.Proofs.Ytcbmncafmofcpaa
open Go.RowKit Go.Proofs.Ws Go.Maps
/-- the list of the first operand, and the first nodes of the second one behind it -/
def catL (f g : List Nd) (j : Nat) : List Nd := f ++ (g.take j).map (shiftN f.length)
theorem catL_ok {f g : List Nd} (hf : fErr f = 0) (hg : fErr g = 0) : opsL (f ++ g.map (shiftN f.length)) ∧ ∀ m ∈ f ++ g.map (shiftN f.length), fldOk m := by
  have h := catK_ok [f, g] (by intro h hh; simp at hh; rcases hh with rfl | rfl <;> assumption) 2 (by simp)
  have e : catK [f, g] 2 = f ++ g.map (shiftN f.length) := by
    have hs : f.map (shiftN 0) = f := by
      have : ∀ l : List Nd, l.map (shiftN 0) = l := by
        intro l
        induction l with
        | nil => rfl
        | cons a l ih =>
          rw [List.map_cons, ih]
          congr 1
          obtain ⟨o, i, e, g', x, y⟩ := a
          simp [shiftN]
      exact this f
    simp [catK, catS, hs]
  rw [e] at h
  exact ⟨h.1, h.2.1⟩
set_option maxRecDepth 100000 in
set_option maxHeartbeats 8000000 in
theorem rBinary_any (x : Nd) (f g : List Nd) (A A2 : Option Addr) (n c n2 c2 : Nat) (w : World) (hR : Reads w w.heap.size 6 A n (nds f)) (hm : n ≤ maxLen) (hR2 : Reads w w.heap.size 6 A2 n2 (nds g)) (hm2 : n2 ≤ maxLen) :
    Calls Try.prog 78 #[nv x, .slice A n c, .slice A2 n2 c2] w fun e w' => ∃ A' c', e = .returned (.slice A' (binaryF x f g).length c') ∧ Reads w' w'.heap.size 6 A' (binaryF x f g).length (nds (binaryF x f g)) ∧ Below w.heap.size w w' := by
  have hl := hR.nd_len
  have hl2 := hR2.nd_len
  have HR := Lib.hid hR
  have HR2 := Lib.hid hR2
  have HC : Hid (∀ W, Below w.heap.size w W → Calls Try.prog 13 #[.slice A n c] W fun e w' => e = .returned (.int .i64 (fErr f)) ∧ Below W.heap.size W w') := Lib.hid (fun W h => rCheck_any f A n c W ((hR.below h).more h.size) hm)
  have HC2 : Hid (∀ W, Below w.heap.size w W → Calls Try.prog 13 #[.slice A2 n2 c2] W fun e w' => e = .returned (.int .i64 (fErr g)) ∧ Below W.heap.size W w') := Lib.hid (fun W h => rCheck_any g A2 n2 c2 W ((hR2.below h).more h.size) hm2)
  have HB0 : Hid (Below w.heap.size w (w.alloc (.cells #[.int .i64 x.op, .int .i64 x.i, .int .i64 x.e, .int .i64 x.g, .int .i64 x.x, .int .i64 x.y] 44))) := Lib.hid ((Below.refl _ w).alloc (Nat.le_refl _) _)
  have HBX := Lib.hid (Box.made w x 44)
  have hs0 : w.heap.size < (w.alloc (.cells #[.int .i64 x.op, .int .i64 x.i, .int .i64 x.e, .int .i64 x.g, .int .i64 x.x, .int .i64 x.y] 44)).heap.size := by simp
  clear hR hR2
  by_cases hz : fErr f = 0
  · have HCZ : Hid (∀ W, Below w.heap.size w W → Calls Try.prog 13 #[.slice A n c] W fun e w' => e = .returned (.int .i64 0) ∧ Below W.heap.size W w') := Lib.hid (fun W h => hz ▸ HC.out W h)
    by_cases hz2 : fErr g = 0
    · have HCZ2 : Hid (∀ W, Below w.heap.size w W → Calls Try.prog 13 #[.slice A2 n2 c2] W fun e w' => e = .returned (.int .i64 0) ∧ Below W.heap.size W w') := Lib.hid (fun W h => hz2 ▸ HC2.out W h)
      have hn0 : f.length ≠ 0 := by simpa using (fErr_ok hz).1
      have hn02 : g.length ≠ 0 := by simpa using (fErr_ok hz2).1
      have h200 := (fErr_ok hz).2.1
      have h2002 := (fErr_ok hz2).2.1
      obtain ⟨k, hk⟩ : ∃ k : Nat, (k : Int) = (f.length : Int) - 1 := ⟨f.length - 1, by omega⟩
      obtain ⟨k2, hk2⟩ : ∃ k2 : Nat, (k2 : Int) = (f.length + g.length : Int) - 1 := ⟨f.length + g.length - 1, by omega⟩
      have HU : Hid (binaryF x f g = if nodeErr { x with x := (k : Int), y := (k2 : Int) } ((n : Int) + (n2 : Int)) = 0 then shortF (f ++ g.map (shiftN f.length) ++ [{ x with x := (k : Int), y := (k2 : Int) }]) else []) := Lib.hid (by unfold binaryF; rw [if_pos hz, if_pos hz2, hk, hk2, hl, hl2, Int.natCast_add])
      have HN : Hid (∀ W, Calls Try.prog 52 #[nv { x with x := (k : Int), y := (k2 : Int) }, .int .i64 ((n : Int) + (n2 : Int))] W fun e w' => e = .returned (.int .i64 (nodeErr { x with x := (k : Int), y := (k2 : Int) } ((n : Int) + (n2 : Int)))) ∧ Below W.heap.size W w') := Lib.hid (fun W => rNode_any _ _ W)
      have hcl : (f ++ g.map (shiftN f.length)).length = n + n2 := by rw [List.length_append, List.length_map]; omega
      have HSH : Hid (nodeErr { x with x := (k : Int), y := (k2 : Int) } ((n : Int) + (n2 : Int)) = 0 → ∀ W A1 c1, Reads W W.heap.size 6 A1 (n + n2 + 1) (nds (f ++ g.map (shiftN f.length) ++ [{ x with x := (k : Int), y := (k2 : Int) }])) → Calls Try.prog 107 #[.slice A1 (n + n2 + 1) c1] W fun e w' => ∃ A' c', e = .returned (.slice A' (shortF (f ++ g.map (shiftN f.length) ++ [{ x with x := (k : Int), y := (k2 : Int) }])).length c') ∧ Reads w' w'.heap.size 6 A' (shortF (f ++ g.map (shiftN f.length) ++ [{ x with x := (k : Int), y := (k2 : Int) }])).length (nds (shortF (f ++ g.map (shiftN f.length) ++ [{ x with x := (k : Int), y := (k2 : Int) }]))) ∧ Below W.heap.size W w') := Lib.hid (fun he W A1 c1 h1 => by
        rw [← Int.natCast_add] at he
        have hn := (nodeErr_iff _ _).1 he
        rw [← hcl] at hn
        obtain ⟨c1', c2'⟩ := catL_ok hz hz2
        have hok := snoc_ok c1' c2' hn.1 hn.2
        exact rShort_any _ hok.ne hok.ops (snoc_kn c2' hn.2) A1 (n + n2 + 1) c1 W h1 (by omega))
      have HGO := Lib.hid (fErr_ops hz2)
      have HGK := Lib.hid (fErr_known hz2)
      have HCL0 : Hid (catL f g 0 = f) := Lib.hid (by simp [catL])
      have HCLE : Hid (catL f g n2 = f ++ g.map (shiftN f.length)) := Lib.hid (by unfold catL; rw [← hl2, List.take_length])
      have HCT : Hid (∀ j, j < n2 → catL f g (j + 1) = catL f g j ++ [shiftN n (g.getD j nd0)] ∧ (catL f g j).length = n + j) := Lib.hid (fun j hj => by
        have hjg : j < g.length := by omega
        refine ⟨?_, by unfold catL; rw [List.length_append, List.length_map, List.length_take]; omega⟩
        unfold catL
        rw [List.take_succ_eq_append_getElem hjg, List.map_append, ← List.append_assoc, show g.getD j nd0 = g[j] from by simp [hjg], hl]; rfl)
      have HLN := Lib.hid hl
      have HLN2 := Lib.hid hl2
      have HCLL := Lib.hid hcl
      have hw1 : wrap64 ((n : Int) - 1) = (k : Int) := by unfold wrap64; omega
      have hw2 : IntKind.i64.wrap ((n : Int) - 1) = (k : Int) := by rw [IntKind.wrap_i64]; omega
      have hw3 : (n : Int) - 1 = (k : Int) := by omega
      have hw4 : wrap64 (((n : Int) + (n2 : Int)) - 1) = (k2 : Int) := by unfold wrap64; omega
      have hw5 : IntKind.i64.wrap (((n : Int) + (n2 : Int)) - 1) = (k2 : Int) := by rw [IntKind.wrap_i64]; omega
      have hw6 : ((n : Int) + (n2 : Int)) - 1 = (k2 : Int) := by omega
      have hn200 : n ≤ 200 := by omega
      have hn2002 : n2 ≤ 200 := by omega
      generalize hcg : f ++ g.map (shiftN f.length) = FG at *
      generalize nodeErr { x with x := (k : Int), y := (k2 : Int) } ((n : Int) + (n2 : Int)) = z at *
      unfold nv at HN ⊢
      dsimp only at HN
      generalize binaryF x f g = q at *
      clear hz hz2 hn0 hn02 h200 h2002 hk hk2 hl hl2 HC HC2 hcl hcg
      go_enter Try.func78, Try.ntmps78
      go_wp2_with fail
      generalize w.alloc (.cells #[.int .i64 x.op, .int .i64 x.i, .int .i64 x.e, .int .i64 x.g, .int .i64 x.x, .int .i64 x.y] 44) = w0 at *
      refine (HCZ.out _ HB0.out).mono ?_
      rintro e w1 ⟨rfl, hb1⟩
      have HB1 := Lib.hid (HB0.out.trans (hb1.mono (Nat.le_of_lt hs0)))
      have hs1 : w.heap.size < w1.heap.size := Nat.lt_of_lt_of_le hs0 hb1.size
      have HBX1 := Lib.hid (HBX.out.keep (W' := w1) (hb1.block _ hs0))
      clear hb1
      go_wp2_with fail
      refine (HCZ2.out _ HB1.out).mono ?_
      rintro e w2 ⟨rfl, hb2⟩
      have HB2 := Lib.hid (HB1.out.trans (hb2.mono (Nat.le_of_lt hs1)))
      have hs2 : w.heap.size < w2.heap.size := Nat.lt_of_lt_of_le hs1 hb2.size
      have HBX2 := Lib.hid (HBX1.out.keep (W' := w2) (hb2.block _ hs1))
      clear hb2
      go_wp2
      go_loopw [7, 8] (fun u7 i wr => ∃ j : Nat, j ≤ n ∧ i = .int .i64 j ∧ Hid (wr.ownsRow (w.heap.size + 1) 44 6 u7 (f.take j).length (nds (f.take j))) ∧ Hid (Box wr w.heap.size x) ∧ Hid (Below w.heap.size w wr) ∧ w.heap.size < wr.heap.size) (fun _ i _ => n - (intOf i).toNat)
      case atStart => exact ⟨0, Nat.zero_le _, rfl, Lib.hid (World.ownsRow_nil _ _ _ _), HBX2, HB2, hs2⟩
      case round =>
        obtain ⟨j, hj, rfl, HO, HX, HB, hsz⟩ := hrel
        by_cases hlt : j < n
        · obtain ⟨ad, rfl, hb, m0, m1, m2, m3, m4, m5⟩ := (HR.out.below HB.out).nd_at hlt
          have hjf : j < f.length := by have := HLN.out; omega
          have HT : Hid (f.take (j + 1) = f.take j ++ [f.getD j nd0]) := Lib.hid (by
            rw [List.take_succ_eq_append_getElem hjf, show f.getD j nd0 = f[j] from by simp [hjf]])
          have hlen : (f.take j).length = j := by rw [List.length_take]; omega
          generalize f.getD j nd0 = y at *
          generalize hL : f.take j = L at *
          have l1 := add_cell m1
          have l2 := add_cell m2
          have l3 := add_cell m3
          have l4 := add_cell m4
          have l5 := add_cell m5
          have HOW := Lib.hid HO.out
          clear hL
          go_wp2_with (at_builtin; refine wp_appN y _ rfl _ _ rfl (w.heap.size + 1) _ _ rfl (HOW.out.alloc _) rfl ?k1 ?k2 ?k3 ?_)
          case k1 =>
            intro j' u hj'
            have hh := heap_alloc_new wr (.cells #[.int .i64 y.op, .int .i64 y.i, .int .i64 y.e, .int .i64 y.g, .int .i64 y.x, .int .i64 y.y] 44)
            rw [Lib.cell_of_heap hh j', ← hj']
            simp [ndC]
          case k2 => omega
          case k3 => simp; omega
          · intro v' w5 hown5 hgrow
            have HO5 : Hid (w5.ownsRow (w.heap.size + 1) 44 6 v' (f.take (j + 1)).length (nds (f.take (j + 1)))) := Lib.hid (by rw [HT.out, List.length_append, hlen]; exact hown5)
            have HX5 := Lib.hid (HX.out.keep (W' := w5) ((hgrow.block w.heap.size (by simp; omega) (fun e => by have := (HOW.out.lt w.heap.size e.symm).1; omega)).trans (Below.heap_alloc wr _ _ hsz)))
            have HB5 : Hid (Below w.heap.size w w5) := Lib.hid ((HB.out.alloc (by omega) _).grown hgrow (by simp; omega) (fun g hg => by have := (HOW.out.lt g hg).1; omega))
            have hs5 : w.heap.size < w5.heap.size := by have := hgrow.size; simp at this; omega
            clear hown5 hgrow m0 m1 m2 m3 m4 m5 l1 l2 l3 l4 l5
            go_wp2
            go_roundw
            case rel => exact ⟨j + 1, by omega, by go_num, HO5, HX5, HB5, hs5⟩
            case measure => simp [intOf]; omega
        · have hjn : f.take j = f := by rw [List.take_of_length_le]; have := HLN.out; omega
          rw [hjn] at HO
          have HOS := Lib.hid HO.out
          have HXS := Lib.hid HX.out
          have HBS := Lib.hid HB.out
          rw [← HCL0.out] at HOS
          have hszS := hsz
          clear HO HX HB hjn
          go_wp2
          clear hlt hj
          go_loopw [7, 9, 10] (fun u7 i u10 wr => ∃ j : Nat, j ≤ n2 ∧ i = .int .i64 j ∧ Hid (wr.ownsRow (w.heap.size + 1) 44 6 u7 (catL f g j).length (nds (catL f g j))) ∧ Hid (Box wr w.heap.size x) ∧ Hid (Below w.heap.size w wr) ∧ w.heap.size < wr.heap.size) (fun _ i _ _ => n2 - (intOf i).toNat)
          case atStart => exact ⟨0, Nat.zero_le _, rfl, HOS, HXS, HBS, hszS⟩
          case round =>
            obtain ⟨j, hj, rfl, HO, HX, HB, hsz⟩ := hrel
            by_cases hlt : j < n2
            · obtain ⟨ad, rfl, hb, m0, m1, m2, m3, m4, m5⟩ := (HR2.out.below HB.out).nd_at hlt
              have hjg : j < g.length := by have := HLN2.out; omega
              obtain ⟨hct, hlen⟩ := HCT.out j hlt
              have HT := Lib.hid hct
              have hops := HGO.out j hjg
              have hkn := HGK.out j hjg
              clear hct
              generalize g.getD j nd0 = y at *
              generalize hL : catL f g j = L at *
              have HUX := Lib.hid (fun W => rUsesX_any y.op hkn W)
              have HUY := Lib.hid (fun W => rUsesY_any y.op hkn W)
              have l1 := add_cell m1
              have l2 := add_cell m2
              have l3 := add_cell m3
              have l4 := add_cell m4
              have l5 := add_cell m5
              have HOY : Hid ((wr.alloc (.cells #[.int .i64 y.op, .int .i64 y.i, .int .i64 y.e, .int .i64 y.g, .int .i64 y.x, .int .i64 y.y] 44)).ownsRow (w.heap.size + 1) 44 6 u7 L.length (nds L)) := Lib.hid (HO.out.alloc _)
              have HXY : Hid (Box (wr.alloc (.cells #[.int .i64 y.op, .int .i64 y.i, .int .i64 y.e, .int .i64 y.g, .int .i64 y.x, .int .i64 y.y] 44)) w.heap.size x) := Lib.hid (HX.out.keep (Below.heap_alloc wr _ _ hsz))
              have HBWY : Hid (Below w.heap.size w (wr.alloc (.cells #[.int .i64 y.op, .int .i64 y.i, .int .i64 y.e, .int .i64 y.g, .int .i64 y.x, .int .i64 y.y] 44))) := Lib.hid (HB.out.alloc (by omega) _)
              have HBY := Lib.hid (Box.made wr y 44)
              have hsy : (wr.alloc (.cells #[.int .i64 y.op, .int .i64 y.i, .int .i64 y.e, .int .i64 y.g, .int .i64 y.x, .int .i64 y.y] 44)).heap.size = wr.heap.size + 1 := by simp
              have HOG : Hid (∀ g', u7.ownBlock = some g' → g' < wr.heap.size) := Lib.hid (fun g' hg => (HO.out.lt g' hg).2)
              clear hL
              go_wp2_with fail
              clear m0 m1 m2 m3 m4 m5 l1 l2 l3 l4 l5
              generalize wr.alloc (.cells #[.int .i64 y.op, .int .i64 y.i, .int .i64 y.e, .int .i64 y.g, .int .i64 y.x, .int .i64 y.y] 44) = wy at *
              generalize hG : wr.heap.size = G at *
              have HGG := Lib.hid hG
              clear hG
              cases hux : usesX y.op with
              | false =>
                have huy : usesY y.op = false := by cases h : usesY y.op with | false => rfl | true => have := usesY_X h; rw [hux] at this; cases this
                have hz : shiftN n y = ⟨y.op, y.i, y.e, y.g, y.x, y.y⟩ := by unfold shiftN; rw [hux, huy]; rfl
                rw [hz] at HT
                rw [hux] at HUX
                rw [huy] at HUY
                obtain ⟨b0, b1, b2, b3, b4, b5, bf⟩ := HBY.out
                have bf4 := bf 4
                have bf5 := bf 5
                clear bf hz hux huy hops
                refine (HUX.out _).mono ?_
                rintro e w1 ⟨rfl, rfl⟩
                go_wp2_with fail
                refine (HUY.out _).mono ?_
                rintro e w1 ⟨rfl, rfl⟩
                have HOZ : Hid (wy.ownsRow (w.heap.size + 1) 44 6 u7 L.length (nds L)) := Lib.hid (own_keep1 HOY.out (fun g hg => by have hg2 := HOG.out g hg; exact rfl))
                have HXZ : Hid (Box wy w.heap.size x) := Lib.hid (HXY.out.keep (rfl))
                have HBZ : Hid (Below w.heap.size w wy) := Lib.hid HBWY.out
                have hsz9 : w.heap.size + 1 < wy.heap.size := by first | omega | (simp; omega)
                go_wp2_with (at_builtin; refine wp_appN ⟨y.op, y.i, y.e, y.g, y.x, y.y⟩ _ rfl _ _ rfl (w.heap.size + 1) _ _ rfl (HOZ.out.alloc _) rfl ?k1 ?k2 ?k3 ?_)
                case k1 =>
                  intro j' u hj'
                  have hh := heap_alloc_new wy (.cells #[.int .i64 y.op, .int .i64 y.i, .int .i64 y.e, .int .i64 y.g, .int .i64 (y.x), .int .i64 (y.y)] 44)
                  have hs8 : (wy).heap.size = G + 1 := by first | exact hsy | simpa using hsy
                  rw [hs8] at hh
                  rw [Lib.cell_of_heap hh j', ← hj']
                  simp [ndC]
                case k2 => omega
                case k3 => simp; omega
                · intro v' w5 hown5 hgrow
                  have HO5 : Hid (w5.ownsRow (w.heap.size + 1) 44 6 v' (catL f g (j + 1)).length (nds (catL f g (j + 1)))) := Lib.hid (by rw [HT.out, List.length_append, hlen]; exact hown5)
                  have HX5 := Lib.hid (HXZ.out.keep (W' := w5) ((hgrow.block w.heap.size (by simp; omega) (fun e => by have := (HOZ.out.lt w.heap.size e.symm).1; omega)).trans (Below.heap_alloc _ _ _ (by omega))))
                  have HB5 : Hid (Below w.heap.size w w5) := Lib.hid ((HBZ.out.alloc (by omega) _).grown hgrow (by simp; omega) (fun g hg => by have := (HOZ.out.lt g hg).1; omega))
                  have hs5 : w.heap.size < w5.heap.size := by have := hgrow.size; simp at this; omega
                  clear hown5 hgrow b0 b1 b2 b3 b4 b5 bf4 bf5
                  go_wp2
                  go_roundw
                  case rel => exact ⟨j + 1, by omega, by go_num, HO5, HX5, HB5, hs5⟩
                  case measure => simp [intOf]; omega
              | true =>
                cases huy : usesY y.op with
                | false =>
                  have hz : shiftN n y = ⟨y.op, y.i, y.e, y.g, y.x + n, y.y⟩ := by unfold shiftN; rw [hux, huy]; rfl
                  rw [hz] at HT
                  rw [hux] at HUX
                  rw [huy] at HUY
                  have hbx := opsOk_x hops hux
                  have ax1 : wrap64 (y.x + (n : Int)) = y.x + n := by unfold wrap64; omega
                  have ax2 : IntKind.i64.wrap (y.x + (n : Int)) = y.x + n := by rw [IntKind.wrap_i64]; omega
                  obtain ⟨b0, b1, b2, b3, b4, b5, bf⟩ := HBY.out
                  have bf4 := bf 4
                  have bf5 := bf 5
                  clear bf hz hux huy hops
                  refine (HUX.out _).mono ?_
                  rintro e w1 ⟨rfl, rfl⟩
                  go_wp2_with fail
                  refine (HUY.out _).mono ?_
                  rintro e w1 ⟨rfl, rfl⟩
                  have HOZ : Hid ((wy.setCell ⟨G, 4, none⟩ (.int .i64 (y.x + n))).ownsRow (w.heap.size + 1) 44 6 u7 L.length (nds L)) := Lib.hid (own_keep1 HOY.out (fun g hg => by have hg2 := HOG.out g hg; exact Below.heap_setCell _ _ _ _ (by show g ≠ G; omega)))
                  have HXZ : Hid (Box (wy.setCell ⟨G, 4, none⟩ (.int .i64 (y.x + n))) w.heap.size x) := Lib.hid (HXY.out.keep (Below.heap_setCell _ _ _ _ (by show w.heap.size ≠ G; omega)))
                  have HBZ : Hid (Below w.heap.size w (wy.setCell ⟨G, 4, none⟩ (.int .i64 (y.x + n)))) := Lib.hid (HBWY.out.setCell (by show w.heap.size ≤ G; omega) _)
                  have hsz9 : w.heap.size + 1 < (wy.setCell ⟨G, 4, none⟩ (.int .i64 (y.x + n))).heap.size := by first | omega | (simp; omega)
                  go_wp2_with (at_builtin; refine wp_appN ⟨y.op, y.i, y.e, y.g, y.x + n, y.y⟩ _ rfl _ _ rfl (w.heap.size + 1) _ _ rfl (HOZ.out.alloc _) rfl ?k1 ?k2 ?k3 ?_)
                  case k1 =>
                    intro j' u hj'
                    have hh := heap_alloc_new (wy.setCell ⟨G, 4, none⟩ (.int .i64 (y.x + n))) (.cells #[.int .i64 y.op, .int .i64 y.i, .int .i64 y.e, .int .i64 y.g, .int .i64 (y.x + n), .int .i64 (y.y)] 44)
                    have hs8 : ((wy.setCell ⟨G, 4, none⟩ (.int .i64 (y.x + n)))).heap.size = G + 1 := by first | exact hsy | simpa using hsy
                    rw [hs8] at hh
                    rw [Lib.cell_of_heap hh j', ← hj']
                    simp [ndC]
                  case k2 => omega
                  case k3 => simp; omega
                  · intro v' w5 hown5 hgrow
                    have HO5 : Hid (w5.ownsRow (w.heap.size + 1) 44 6 v' (catL f g (j + 1)).length (nds (catL f g (j + 1)))) := Lib.hid (by rw [HT.out, List.length_append, hlen]; exact hown5)
                    have HX5 := Lib.hid (HXZ.out.keep (W' := w5) ((hgrow.block w.heap.size (by simp; omega) (fun e => by have := (HOZ.out.lt w.heap.size e.symm).1; omega)).trans (Below.heap_alloc _ _ _ (by omega))))
                    have HB5 : Hid (Below w.heap.size w w5) := Lib.hid ((HBZ.out.alloc (by omega) _).grown hgrow (by simp; omega) (fun g hg => by have := (HOZ.out.lt g hg).1; omega))
                    have hs5 : w.heap.size < w5.heap.size := by have := hgrow.size; simp at this; omega
                    clear hown5 hgrow b0 b1 b2 b3 b4 b5 bf4 bf5
                    go_wp2
                    go_roundw
                    case rel => exact ⟨j + 1, by omega, by go_num, HO5, HX5, HB5, hs5⟩
                    case measure => simp [intOf]; omega

                | true =>
                  have hz : shiftN n y = ⟨y.op, y.i, y.e, y.g, y.x + n, y.y + n⟩ := by unfold shiftN; rw [hux, huy]; rfl
                  rw [hz] at HT
                  rw [hux] at HUX
                  rw [huy] at HUY
                  have hbx := opsOk_x hops hux
                  have ax1 : wrap64 (y.x + (n : Int)) = y.x + n := by unfold wrap64; omega
                  have ax2 : IntKind.i64.wrap (y.x + (n : Int)) = y.x + n := by rw [IntKind.wrap_i64]; omega
                  have hby := opsOk_y hops huy
                  have ay1 : wrap64 (y.y + (n : Int)) = y.y + n := by unfold wrap64; omega
                  have ay2 : IntKind.i64.wrap (y.y + (n : Int)) = y.y + n := by rw [IntKind.wrap_i64]; omega
                  obtain ⟨b0, b1, b2, b3, b4, b5, bf⟩ := HBY.out
                  have bf4 := bf 4
                  have bf5 := bf 5
                  clear bf hz hux huy hops
                  refine (HUX.out _).mono ?_
                  rintro e w1 ⟨rfl, rfl⟩
                  go_wp2_with fail
                  refine (HUY.out _).mono ?_
                  rintro e w1 ⟨rfl, rfl⟩
                  have HOZ : Hid (((wy.setCell ⟨G, 4, none⟩ (.int .i64 (y.x + n))).setCell ⟨G, 5, none⟩ (.int .i64 (y.y + n))).ownsRow (w.heap.size + 1) 44 6 u7 L.length (nds L)) := Lib.hid (own_keep1 HOY.out (fun g hg => by have hg2 := HOG.out g hg; exact (Below.heap_setCell _ _ _ _ (by show g ≠ G; omega)).trans (Below.heap_setCell _ _ _ _ (by show g ≠ G; omega))))
                  have HXZ : Hid (Box ((wy.setCell ⟨G, 4, none⟩ (.int .i64 (y.x + n))).setCell ⟨G, 5, none⟩ (.int .i64 (y.y + n))) w.heap.size x) := Lib.hid (HXY.out.keep ((Below.heap_setCell _ _ _ _ (by show w.heap.size ≠ G; omega)).trans (Below.heap_setCell _ _ _ _ (by show w.heap.size ≠ G; omega))))
                  have HBZ : Hid (Below w.heap.size w ((wy.setCell ⟨G, 4, none⟩ (.int .i64 (y.x + n))).setCell ⟨G, 5, none⟩ (.int .i64 (y.y + n)))) := Lib.hid ((HBWY.out.setCell (by show w.heap.size ≤ G; omega) _).setCell (by show w.heap.size ≤ G; omega) _)
                  have hsz9 : w.heap.size + 1 < ((wy.setCell ⟨G, 4, none⟩ (.int .i64 (y.x + n))).setCell ⟨G, 5, none⟩ (.int .i64 (y.y + n))).heap.size := by first | omega | (simp; omega)
                  go_wp2_with (at_builtin; refine wp_appN ⟨y.op, y.i, y.e, y.g, y.x + n, y.y + n⟩ _ rfl _ _ rfl (w.heap.size + 1) _ _ rfl (HOZ.out.alloc _) rfl ?k1 ?k2 ?k3 ?_)
                  case k1 =>
                    intro j' u hj'
                    have hh := heap_alloc_new ((wy.setCell ⟨G, 4, none⟩ (.int .i64 (y.x + n))).setCell ⟨G, 5, none⟩ (.int .i64 (y.y + n))) (.cells #[.int .i64 y.op, .int .i64 y.i, .int .i64 y.e, .int .i64 y.g, .int .i64 (y.x + n), .int .i64 (y.y + n)] 44)
                    have hs8 : (((wy.setCell ⟨G, 4, none⟩ (.int .i64 (y.x + n))).setCell ⟨G, 5, none⟩ (.int .i64 (y.y + n)))).heap.size = G + 1 := by first | exact hsy | simpa using hsy
                    rw [hs8] at hh
                    rw [Lib.cell_of_heap hh j', ← hj']
                    simp [ndC]
                  case k2 => omega
                  case k3 => simp; omega
                  · intro v' w5 hown5 hgrow
                    have HO5 : Hid (w5.ownsRow (w.heap.size + 1) 44 6 v' (catL f g (j + 1)).length (nds (catL f g (j + 1)))) := Lib.hid (by rw [HT.out, List.length_append, hlen]; exact hown5)
                    have HX5 := Lib.hid (HXZ.out.keep (W' := w5) ((hgrow.block w.heap.size (by simp; omega) (fun e => by have := (HOZ.out.lt w.heap.size e.symm).1; omega)).trans (Below.heap_alloc _ _ _ (by omega))))
                    have HB5 : Hid (Below w.heap.size w w5) := Lib.hid ((HBZ.out.alloc (by omega) _).grown hgrow (by simp; omega) (fun g hg => by have := (HOZ.out.lt g hg).1; omega))
                    have hs5 : w.heap.size < w5.heap.size := by have := hgrow.size; simp at this; omega
                    clear hown5 hgrow b0 b1 b2 b3 b4 b5 bf4 bf5
                    go_wp2
                    go_roundw
                    case rel => exact ⟨j + 1, by omega, by go_num, HO5, HX5, HB5, hs5⟩
                    case measure => simp [intOf]; omega
            · have hjn : j = n2 := by omega
              rw [hjn, HCLE.out, HCLL.out] at HO
              obtain ⟨b0, b1, b2, b3, b4, b5, bf⟩ := HX.out
              have bf4 := bf 4
              have bf5 := bf 5
              obtain ⟨A7, c7, rfl⟩ := own_sl HO.out
              have HBXk := Lib.hid ((HX.out.setX (k : Int)).setY (k2 : Int))
              have HB2s : Hid (Below w.heap.size w ((wr.setCell ⟨w.heap.size, 4, none⟩ (.int .i64 (k : Int))).setCell ⟨w.heap.size, 5, none⟩ (.int .i64 (k2 : Int)))) := Lib.hid ((HB.out.setCell (Nat.le_refl _) _).setCell (Nat.le_refl _) _)
              have HOs : Hid (((wr.setCell ⟨w.heap.size, 4, none⟩ (.int .i64 (k : Int))).setCell ⟨w.heap.size, 5, none⟩ (.int .i64 (k2 : Int))).ownsRow (w.heap.size + 1) 44 6 (.slice A7 (n + n2) c7) (n + n2) (nds FG)) := Lib.hid (ownsRow_setCell_below (ownsRow_setCell_below HO.out (by show w.heap.size < w.heap.size + 1; omega) _) (by show w.heap.size < w.heap.size + 1; omega) _)
              have hs2s : w.heap.size < ((wr.setCell ⟨w.heap.size, 4, none⟩ (.int .i64 (k : Int))).setCell ⟨w.heap.size, 5, none⟩ (.int .i64 (k2 : Int))).heap.size := by simpa using hsz
              have hd : decide (n2 ≤ j) = true := decide_eq_true (by omega)
              clear bf hjn hj
              go_wp2_with fail
              clear b0 b1 b2 b3 b4 b5 bf4 bf5
              generalize (wr.setCell ⟨w.heap.size, 4, none⟩ (.int .i64 (k : Int))).setCell ⟨w.heap.size, 5, none⟩ (.int .i64 (k2 : Int)) = w4 at *
              refine (HN.out _).mono ?_
              rintro e w5 ⟨rfl, hb5⟩
              have HB5 := Lib.hid (HB2s.out.trans (hb5.mono (Nat.le_of_lt hs2s)))
              have HBX5 := Lib.hid (HBXk.out.keep (W' := w5) (hb5.block _ hs2s))
              have HO5 := Lib.hid (own_keep1 HOs.out (fun g' hg' => hb5.block g' (HOs.out.lt g' hg').2))
              have hs5 := Nat.lt_of_lt_of_le hs2s hb5.size
              clear hb5
              by_cases hz : z = 0
              · subst hz
                have hq : q = shortF (FG ++ [{ x with x := (k : Int), y := (k2 : Int) }]) := by rw [HU.out, if_pos rfl]
                have HS := Lib.hid (HSH.out rfl)
                rw [← hq] at HS
                clear HU HSH HN hq
                generalize ({ x with x := (k : Int), y := (k2 : Int) } : Nd) = x' at *
                obtain ⟨b0, b1, b2, b3, b4, b5, _⟩ := HBX5.out
                have hfl := HCLL.out
                go_wp2_with (at_builtin; refine wp_appN x' _ rfl _ _ rfl (w.heap.size + 1) _ _ rfl (by rw [hfl]; exact HO5.out.alloc _) rfl ?k1 ?k2 ?k3 ?_)
                case k1 =>
                  intro j' u hj'
                  have hh := heap_alloc_new w5 (.cells #[.int .i64 x'.op, .int .i64 x'.i, .int .i64 x'.e, .int .i64 x'.g, .int .i64 x'.x, .int .i64 x'.y] 44)
                  rw [Lib.cell_of_heap hh j', ← hj']
                  simp [ndC]
                case k2 => omega
                case k3 => simp; omega
                · intro v' w6 hown6 hgrow
                  obtain ⟨A6, c6, rfl⟩ := own_sl hown6
                  have HR6 := Lib.hid (Reads.of_own hown6)
                  have HB6 : Hid (Below w.heap.size w w6) := Lib.hid ((HB5.out.alloc (by omega) _).grown hgrow (by simp; omega) (fun g hg => by have := (HO5.out.lt g hg).1; omega))
                  clear hown6 hgrow b0 b1 b2 b3 b4 b5
                  go_wp2_with fail
                  refine (HS.out _ _ _ HR6.out).mono ?_
                  rintro e w7 ⟨A8, c8, rfl, hR8, hb8⟩
                  have HR8 := Lib.hid hR8
                  have HB8 := Lib.hid (HB6.out.trans (hb8.mono HB6.out.size))
                  clear hR8 hb8
                  go_wp2
                  go_ret
                  exact ⟨A8, c8, rfl, HR8.out, HB8.out⟩
              · have hq : q = [] := by rw [HU.out, if_neg hz]
                have hzb : (z != 0) = true := by simpa using hz
                clear hz HU HSH HN
                subst hq
                go_wp2
                go_ret
                exact ⟨none, 0, rfl, Reads.none_, HB5.out⟩
    · have hq : binaryF x f g = [] := by unfold binaryF; rw [if_pos hz, if_neg hz2]
      rw [hq]
      have hzb : (fErr g != 0) = true := by simpa using hz2
      generalize fErr g = z at *
      unfold nv
      clear hq hz hz2 hl hl2
      go_enter Try.func78, Try.ntmps78
      go_wp2_with fail
      generalize w.alloc (.cells #[.int .i64 x.op, .int .i64 x.i, .int .i64 x.e, .int .i64 x.g, .int .i64 x.x, .int .i64 x.y] 44) = w0 at *
      refine (HCZ.out _ HB0.out).mono ?_
      rintro e w1 ⟨rfl, hb1⟩
      have HB1 := Lib.hid (HB0.out.trans (hb1.mono (Nat.le_of_lt hs0)))
      clear hb1
      go_wp2_with fail
      refine (HC2.out _ HB1.out).mono ?_
      rintro e w2 ⟨rfl, hb2⟩
      have HB2 := Lib.hid (HB1.out.trans (hb2.mono HB1.out.size))
      clear hb2
      go_wp2
      go_ret
      exact ⟨none, 0, rfl, Reads.none_, HB2.out⟩
  · have hq : binaryF x f g = [] := by unfold binaryF; rw [if_neg hz]
    rw [hq]
    have hzb : (fErr f != 0) = true := by simpa using hz
    generalize fErr f = z at *
    unfold nv
    clear hq hz hl hl2
    go_enter Try.func78, Try.ntmps78
    go_wp2_with fail
    generalize w.alloc (.cells #[.int .i64 x.op, .int .i64 x.i, .int .i64 x.e, .int .i64 x.g, .int .i64 x.x, .int .i64 x.y] 44) = w0 at *
    refine (HC.out _ HB0.out).mono ?_
    rintro e w1 ⟨rfl, hb1⟩
    have HB1 := Lib.hid (HB0.out.trans (hb1.mono (Nat.le_of_lt hs0)))
    clear hb1
    go_wp2
    go_ret
    exact ⟨none, 0, rfl, Reads.none_, HB1.out⟩
end Go.Proofs.Ytcbmncafmofcpaa
