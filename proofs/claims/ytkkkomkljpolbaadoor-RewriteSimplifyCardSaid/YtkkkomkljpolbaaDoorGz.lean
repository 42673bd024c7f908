/- Layer 8: the reference's opposite, contains and Closure. -/
import Derived.Test.YtkkkomkljpolbaaDoorGy
namespace Go.Proofs.YtkkkomkljpolbaaDoor
open Go.RowKit Go.Proofs.Ws Go.Maps
set_option maxRecDepth 100000
theorem compF_len200 {g : List Nd} (hz : fErr g = 0) : (canT (tOf g)).length ≤ 200 := by
  have e : compF g = canT (tOf g) := compF_tree hz
  rw [← e]
  exact Nat.le_trans (compF_le g) (fErr_ok hz).2.1
theorem topF_comp {g : List Nd} (hz : fErr g = 0) : topF (compF g) = topT (tOf g) := by
  have ht := tOf_all hz
  have e : compF g = canT (tOf g) := compF_tree hz
  have hp := List.length_pos_iff.2 (canT_ne (tOf g))
  unfold topF
  rw [e, ← topT_at (canT_ops ht.1) (by omega), canT_tree ht.1]
theorem opp_sub {g : List Nd} (hz : fErr g = 0) (h4 : topF (compF g) = 4) : ∃ x : Nat, ((compF g).getD ((compF g).length - 1) nd0).x = (x : Int) ∧ subF (compF g) x = mapF negT g := by
  have ht := tOf_all hz
  have e : compF g = canT (tOf g) := compF_tree hz
  have hl := compF_len200 hz
  have ho := canT_ops ht.1
  have hp := List.length_pos_iff.2 (canT_ne (tOf g))
  have hmap : mapF negT g = resL (negT (tOf g)) := if_pos hz
  rw [topF_comp hz] at h4
  rw [hmap, e]
  clear hmap e hz
  generalize tOf g = t at *
  have hlast : treeAt (canT t) ((canT t).length - 1) = t := canT_tree ht.1
  have hlt : (canT t).length - 1 < (canT t).length := by omega
  have he := treeAt_eq ho hlt
  have hop := topT_at ho hlt
  rw [hlast, h4] at hop
  rw [hlast] at he
  have hox := ho _ hlt
  generalize (canT t).getD ((canT t).length - 1) nd0 = n at *
  have hu : usesX n.op = true := by rw [← hop]; decide
  have hy : ¬ usesY n.op = true := by rw [← hop]; decide
  rw [if_neg hy, if_pos hu] at he
  have hx := opsOk_x hox hu
  have hxl : n.x.toNat < (canT t).length := by omega
  refine ⟨n.x.toNat, by omega, ?_⟩
  have hneg : negT t = treeAt (canT t) n.x.toNat := by
    have h1 : ∀ s : Tr, s = .un (bare n) (treeAt (canT t) n.x.toNat) → negT s = treeAt (canT t) n.x.toNat := fun s e => by rw [e]; exact if_pos hop.symm
    exact h1 t he
  have hlen := len_part ht.1 (canT_sub ht.1 hxl)
  rw [hneg, resL_short (by omega)]
  unfold subF
  rw [if_pos ⟨canT_good ht hl, Int.natCast_nonneg _, by omega⟩, Int.toNat_natCast]
  exact canon_take ho hxl
theorem opp_not {g : List Nd} (hz : fErr g = 0) (h4 : topF (compF g) ≠ 4) : unaryF ⟨4, 0, 0, 0, 0, 0⟩ (compF g) = mapF negT g := by
  have ht := tOf_all hz
  have e : compF g = canT (tOf g) := compF_tree hz
  have hl := compF_len200 hz
  have hmap : mapF negT g = resL (negT (tOf g)) := if_pos hz
  rw [topF_comp hz] at h4
  rw [hmap, e, negT_not ht.1 h4]
  have h := reb_res (n := opN 4) (fld_op (by decide) (by decide) (by decide) (by decide)) (a := tOf g) (b := noT) (fun _ => ht) (fun k => absurd k (by decide))
  rw [resL_short hl] at h
  have h1 : rebF (opN 4) (canT (tOf g)) (resL noT) = unaryF ⟨4, 0, 0, 0, 0, 0⟩ (canT (tOf g)) := rfl
  rw [← h1, h]
  rfl
theorem rNot_own (f : List Nd) (A : Option Addr) (n c : Nat) (w : World) (hR : Reads w w.heap.size 6 A n (nds f)) (hm : n ≤ maxLen) :
    Calls Tryd.prog 56 #[.slice A n c] w fun e w' => ∃ A' c', e = .returned (.slice A' (unaryF ⟨4, 0, 0, 0, 0, 0⟩ f).length c') ∧ w'.ownsRow 0 62 6 (.slice A' (unaryF ⟨4, 0, 0, 0, 0, 0⟩ f).length c') (unaryF ⟨4, 0, 0, 0, 0, 0⟩ f).length (nds (unaryF ⟨4, 0, 0, 0, 0, 0⟩ f)) ∧ Below w.heap.size w w' := by
  have HC := Lib.hid (rUnary_own ⟨4, 0, 0, 0, 0, 0⟩ f A n c w hR hm)
  unfold nv at HC
  generalize unaryF ⟨4, 0, 0, 0, 0, 0⟩ f = q at *
  dsimp only at HC
  clear hR
  go_enter Tryd.func56, Tryd.ntmps56
  go_wp2_with fail
  refine (HC.out).mono ?_
  rintro e w2 ⟨A', c', rfl, hR2, hb2⟩
  have HR2 := Lib.hid hR2
  have HB2 := Lib.hid hb2
  clear hR2 hb2
  go_wp2
  go_ret
  exact ⟨A', c', rfl, HR2.out, HB2.out⟩
set_option maxHeartbeats 4000000 in
theorem rOpp_any (g : List Nd) (A : Option Addr) (n c : Nat) (w : World) (hR : Reads w w.heap.size 6 A n (nds g)) (hm : n ≤ maxLen) :
    Calls Tryd.prog 72 #[.slice A n c] w fun e w' => ∃ A' c', e = .returned (.slice A' (mapF negT g).length c') ∧ w'.ownsRow 0 62 6 (.slice A' (mapF negT g).length c') (mapF negT g).length (nds (mapF negT g)) ∧ Below w.heap.size w w' := by
  have HC := Lib.hid (rCompact_any g A n c w hR hm)
  by_cases hz : fErr g = 0
  · have hl := compF_len200 hz
    have e : compF g = canT (tOf g) := compF_tree hz
    rw [← e] at hl
    have hne : compF g ≠ [] := by rw [e]; exact canT_ne _
    have HSUB := Lib.hid (fun h4 : topF (compF g) = 4 => opp_sub hz h4)
    have HNOT := Lib.hid (fun h4 : topF (compF g) ≠ 4 => opp_not hz h4)
    have HTF : Hid (topF (compF g) = ((compF g).getD ((compF g).length - 1) nd0).op) := Lib.hid rfl
    clear e hR hm hz
    generalize mapF negT g = r at *
    generalize compF g = q at *
    obtain ⟨m, hm1⟩ : ∃ m, q.length = m + 1 := ⟨q.length - 1, by
      have : q.length ≠ 0 := by simpa using hne
      omega⟩
    have hmq : q.length - 1 = m := by omega
    rw [hmq] at HTF HSUB
    have hz0 : ((q.length : Int) == 0) = false := by simpa using hne
    have hw1 : wrap64 ((q.length : Int) - 1) = (m : Int) := by unfold wrap64; omega
    have hw2 : IntKind.i64.wrap ((q.length : Int) - 1) = (m : Int) := by rw [IntKind.wrap_i64]; omega
    have hw3 : (q.length : Int) - 1 = (m : Int) := by omega
    have hw4 : wrap64 (m : Int) = (m : Int) := by unfold wrap64; omega
    have hmn : m < q.length := by omega
    clear hm1 hmq hne
    go_enter Tryd.func72, Tryd.ntmps72
    go_wp2_with fail
    refine (HC.out).mono ?_
    rintro e w1 ⟨Aq, cq, rfl, hq, hb⟩
    have HQ := Lib.hid hq
    have HB1 := Lib.hid hb
    obtain ⟨aq, rfl, hbq, m0, m1, m2, m3, m4, m5⟩ := hq.nd_at hmn
    clear hb hq
    have l1 := add_cell m1
    have l2 := add_cell m2
    have l3 := add_cell m3
    have l4 := add_cell m4
    have l5 := add_cell m5
    generalize hy : q.getD m nd0 = y at *
    obtain ⟨op, i, ee, gg, x, yy⟩ := y
    dsimp only at m0 m1 m2 m3 m4 m5 l1 l2 l3 l4 l5 HSUB HTF
    clear hy
    by_cases h4 : op = 4
    · obtain ⟨x', hx', hs⟩ := HSUB.out (by rw [HTF.out]; exact h4)
      subst h4 hx'
      have HS := Lib.hid (fun (W : World) (h : Below w1.heap.size w1 W) => rSub_own q (x' : Int) (some aq) q.length cq W ((HQ.out.below h).more h.size) (by unfold maxLen; omega))
      have HBA : Hid (Below w1.heap.size w1 (w1.alloc (.cells #[.int .i64 4, .int .i64 i, .int .i64 ee, .int .i64 gg, .int .i64 (x' : Int), .int .i64 yy] 62))) := Lib.hid ((Below.refl _ w1).alloc (Nat.le_refl _) _)
      rw [hs] at HS
      clear hs HSUB HNOT HTF
      go_wp2_with fail
      refine (HS.out _ HBA.out).mono ?_
      rintro e w2 ⟨A', c', rfl, ho, hb2⟩
      have HO := Lib.hid (own_base ho (Nat.zero_le _))
      have HB2 := Lib.hid (HB1.out.trans ((HBA.out.trans (hb2.mono HBA.out.size)).mono HB1.out.size))
      clear ho hb2
      go_wp2
      go_ret
      exact ⟨A', c', rfl, HO.out, HB2.out⟩
    · have hs := HNOT.out (by rw [HTF.out]; exact h4)
      have HS := Lib.hid (fun (W : World) (h : Below w1.heap.size w1 W) => rNot_own q (some aq) q.length cq W ((HQ.out.below h).more h.size) (by unfold maxLen; omega))
      have HBA : Hid (Below w1.heap.size w1 (w1.alloc (.cells #[.int .i64 op, .int .i64 i, .int .i64 ee, .int .i64 gg, .int .i64 x, .int .i64 yy] 62))) := Lib.hid ((Below.refl _ w1).alloc (Nat.le_refl _) _)
      rw [hs] at HS
      have hop : (op == 4) = false := by simpa using h4
      clear hs HSUB HNOT HTF h4
      go_wp2_with fail
      refine (HS.out _ HBA.out).mono ?_
      rintro e w2 ⟨A', c', rfl, ho, hb2⟩
      have HO := Lib.hid ho
      have HB2 := Lib.hid (HB1.out.trans ((HBA.out.trans (hb2.mono HBA.out.size)).mono HB1.out.size))
      clear ho hb2
      go_wp2
      go_ret
      exact ⟨A', c', rfl, HO.out, HB2.out⟩
  · have e1 : compF g = [] := if_neg hz
    have e2 : mapF negT g = [] := if_neg hz
    rw [e1] at HC
    rw [e2]
    clear e1 e2 hR hm hz
    dsimp only [List.length_nil] at HC
    go_enter Tryd.func72, Tryd.ntmps72
    go_wp2_with fail
    refine (HC.out).mono ?_
    rintro e w1 ⟨Aq, cq, rfl, hq, hb⟩
    have HB1 := Lib.hid hb
    clear hb hq
    go_wp2
    go_ret
    exact ⟨none, 0, rfl, World.ownsRow_nil _ _ _ _, HB1.out⟩
/-- a canonical formula -/
def Cn (g : List Nd) : Prop := fErr g = 0 ∧ compF g = g ∧ g.length ≤ 200
theorem cn_can {t : Tr} (h : AllOk t) (hl : (canT t).length ≤ 200) : Cn (canT t) := by
  have e := canT_good h hl
  refine ⟨e, ?_, hl⟩
  have := compF_tree e
  rw [show treeAt (canT t) ((canT t).length - 1) = t from canT_tree h.1] at this
  exact this
theorem same_cn {f g : List Nd} (hf : Cn f) (hg : Cn g) : sameF f g = decide (f = g) := by
  unfold sameF
  rw [hf.2.1, hg.2.1]
  by_cases e : f = g
  · rw [decide_eq_true e, decide_eq_true ⟨hf.1, hg.1, e⟩]
  · rw [decide_eq_false e, decide_eq_false (fun k => e k.2.2)]
theorem closN_all {P : List Nd → Prop} : ∀ (gs l : List (List Nd)), (∀ g ∈ l, P g) → (∀ g ∈ gs, P g ∧ P (mapF negT g)) → ∀ g ∈ closN l gs, P g
  | [], _, h, _ => h
  | a :: gs, l, h, k => closN_all gs _ (fun g hg => by
    rcases appN_mem hg with hg | rfl
    · rcases appN_mem hg with hg | rfl
      · exact h g hg
      · exact (k _ List.mem_cons_self).1
    · exact (k _ List.mem_cons_self).2) (fun g hg => k g (List.mem_cons_of_mem _ hg))
theorem subs_cn {f : List Nd} (hz : fErr f = 0) (h2 : f.length ≤ 199) : ∀ s ∈ subsF f, Cn s ∧ Cn (mapF negT s) ∧ mapF negT s ≠ [] := by
  intro s hs
  have ht := tOf_all hz
  have hlt : (canT (tOf f)).length ≤ f.length := by
    have e : compF f = canT (tOf f) := compF_tree hz
    rw [← e]
    exact compF_le f
  rw [subs_can8 hz] at hs
  obtain ⟨t, h1, rfl⟩ := List.mem_map.1 hs
  have hst := (treesL_mem ht.1 t).1 h1
  have ha := sub_all ht hst
  have hl := len_part ht.1 hst
  have hc := cn_can ha (by omega)
  have hn := neg_len ha
  have e : mapF negT (canT t) = canT (negT t) := by
    have h3 : mapF negT (canT t) = resL (negT (tOf (canT t))) := if_pos hc.1
    rw [h3, tOf_canT ha.1, resL_short (by omega)]
  rw [e]
  exact ⟨hc, cn_can (all_neg ha) (by omega), canT_ne _⟩
set_option maxHeartbeats 4000000 in
theorem rContains_any (ls : List (List Nd)) (f : List Nd) (v : Value) (b : Nat) (A : Option Addr) (n c : Nat) (w : World) (hL : LL w b v ls) (hF : Cn f) (hls : ∀ g ∈ ls, Cn g) (hll : ls.length ≤ 1000) (hR : Reads w w.heap.size 6 A n (nds f)) (hm : n ≤ maxLen) :
    Calls Tryd.prog 71 #[v, .slice A n c] w fun e w' => e = .returned (.bool (decide (f ∈ ls))) ∧ Below w.heap.size w w' := by
  obtain ⟨Al, cl, rfl, hit⟩ := hL.slice
  have HIT := Lib.hid hit
  have HR := Lib.hid hR
  have HLS := Lib.hid hls
  have HSA := Lib.hid (fun (g : List Nd) (hg : Cn g) (A2 : Option Addr) (c2 : Nat) (W : World) (h1 : Reads W W.heap.size 6 A2 g.length (nds g)) (h2 : Reads W W.heap.size 6 A n (nds f)) => by
    have := rSame_any g f A2 A g.length n c2 c W h1 h2 (by have := hg.2.2; unfold maxLen; omega) hm
    rw [same_cn hg hF] at this
    exact this)
  clear hit hL hR hls hm
  go_enter Tryd.func71, Tryd.ntmps71
  go_wp2
  go_loopw [6, 9] (fun _ i wr => ∃ k : Nat, k ≤ ls.length ∧ i = .int .i64 k ∧ Hid (∀ j, j < k → ls.getD j [] ≠ f) ∧ Hid (Below w.heap.size w wr)) (fun _ i _ => ls.length - (intOf i).toNat)
  case atStart => exact ⟨0, Nat.zero_le _, rfl, Lib.hid (fun j hj => absurd hj (by omega)), Lib.hid (Below.refl _ _)⟩
  case round =>
    obtain ⟨k, hk, rfl, HN, HBR⟩ := hrel
    by_cases hlt : k < ls.length
    · obtain ⟨ad, Aj, cj, rfl, hcell, hown⟩ := HIT.out k hlt
      have hab : (ad.add k).block < w.heap.size := by
        rcases Nat.lt_or_ge (ad.add k).block w.heap.size with h' | h'
        · exact h'
        · simp [World.cell?, Array.getElem?_eq_none h'] at hcell
      have hcr := (HBR.out.cell (p := ad.add k) hab).trans hcell
      have hmem : ls.getD k [] ∈ ls := by
        rw [List.getD_eq_getElem?_getD, List.getElem?_eq_getElem hlt]
        exact List.getElem_mem _
      have CE := Lib.hid (HSA.out _ (HLS.out _ hmem) Aj cj wr (Reads.of_own (own_keep1 hown (fun g hg => HBR.out.block g (hown.lt g hg).2))) ((HR.out.below HBR.out).more HBR.out.size))
      clear hcell hown hab
      by_cases he : ls.getD k [] = f
      · have hd : decide (f ∈ ls) = true := decide_eq_true (by rw [← he]; exact hmem)
        rw [decide_eq_true he] at CE
        have HD := Lib.hid hd
        clear he hmem hd HN HLS HSA HIT
        generalize (ls.getD k []).length = lg at *
        go_wp2_with fail
        refine (CE.out).mono ?_
        rintro e w2 ⟨rfl, hb2⟩
        have HB2 := Lib.hid (HBR.out.trans (hb2.mono HBR.out.size))
        clear hb2 CE
        go_wp2
        go_ret
        rw [HD.out]
        exact ⟨rfl, HB2.out⟩
      · have HN2 : Hid (∀ j, j < k + 1 → ls.getD j [] ≠ f) := Lib.hid (fun j hj => by
          by_cases e : j = k
          · subst e; exact he
          · exact HN.out j (by omega))
        rw [decide_eq_false he] at CE
        clear he hmem HN
        generalize (ls.getD k []).length = lg at *
        go_wp2_with fail
        refine (CE.out).mono ?_
        rintro e w2 ⟨rfl, hb2⟩
        have HB2 := Lib.hid (HBR.out.trans (hb2.mono HBR.out.size))
        clear hb2 CE
        go_wp2
        go_roundw
        case rel => exact ⟨k + 1, by omega, by go_num, HN2, HB2⟩
        case measure => first | (simp [intOf]; done) | (simp [intOf]; omega)
    · have hkl : k = ls.length := by omega
      subst hkl
      have hd : decide (f ∈ ls) = false := decide_eq_false (fun hm => by
        obtain ⟨j, hj, hj2⟩ := List.getElem_of_mem hm
        refine HN.out j hj ?_
        rw [List.getD_eq_getElem?_getD, List.getElem?_eq_getElem hj]
        exact hj2)
      have HD := Lib.hid hd
      clear hd HN
      go_wp2
      go_ret
      rw [HD.out]
      exact ⟨rfl, HBR.out⟩
end Go.Proofs.YtkkkomkljpolbaaDoor
