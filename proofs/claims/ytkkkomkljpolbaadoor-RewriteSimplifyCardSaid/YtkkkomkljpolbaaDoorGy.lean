/- Layer 8: Modal of the program and of the reference. -/
import Derived.Test.YtkkkomkljpolbaaDoorRl
namespace Go.Proofs.YtkkkomkljpolbaaDoor
open Go.RowKit Go.Proofs.Ws Go.Maps
set_option maxRecDepth 100000
def topF (g : List Nd) : Int := (g.getD (g.length - 1) nd0).op
def modL (l : List (List Nd)) : List (List Nd) := l.filter (fun g => decide (8 < topF g))
theorem modL_len (l : List (List Nd)) : (modL l).length ≤ l.length := List.length_filter_le _ _
theorem modL_app (l : List (List Nd)) (g : List Nd) : modL (l ++ [g]) = if 8 < topF g then modL l ++ [g] else modL l := by
  unfold modL
  rw [List.filter_append]
  by_cases h : 8 < topF g
  · rw [if_pos h, List.filter_cons_of_pos (by simpa using h)]; rfl
  · rw [if_neg h, List.filter_cons_of_neg (by simpa using h)]; simp
theorem subs_can8 {f : List Nd} (hz : fErr f = 0) : subsF f = (treesL (tOf f)).map canT := by
  have e : compF f = canT (tOf f) := compF_tree hz
  have ho := canT_ops (tOf_all hz).1
  unfold subsF treesL
  rw [e, List.map_map]
  refine List.map_congr_left (fun i hi => ?_)
  exact canon_take ho (List.mem_range.1 hi)
/-- a subformula is a formula with few nodes -/
theorem subs_len8 {f : List Nd} (hz : fErr f = 0) : (subsF f).length ≤ f.length ∧ ∀ g ∈ subsF f, g ≠ [] ∧ g.length ≤ f.length := by
  have ht := tOf_all hz
  have hlt : (canT (tOf f)).length ≤ f.length := by
    have e : compF f = canT (tOf f) := compF_tree hz
    rw [← e]
    exact compF_le f
  rw [subs_can8 hz]
  refine ⟨?_, fun g hg => ?_⟩
  · rw [List.length_map]
    unfold treesL
    rw [List.length_map, List.length_range]
    exact hlt
  · obtain ⟨s, hs, rfl⟩ := List.mem_map.1 hg
    exact ⟨canT_ne s, Nat.le_trans (len_part ht.1 ((treesL_mem ht.1 s).1 hs)) hlt⟩
theorem top_any (g : List Nd) (A : Option Addr) (n c : Nat) (w : World) (hR : Reads w w.heap.size 6 A n (nds g)) (hne : g ≠ []) (hm : n ≤ maxLen) :
    Calls Tryd.prog 69 #[.slice A n c] w fun e w' => e = .returned (.int .i64 (topF g)) ∧ w = w' := by
  have hl := hR.nd_len
  have HR := Lib.hid hR
  obtain ⟨m, hm1⟩ : ∃ m, n = m + 1 := ⟨n - 1, by
    have : g.length ≠ 0 := by simpa using hne
    omega⟩
  obtain ⟨ad, rfl, hb, m0, m1, m2, m3, m4, m5⟩ := HR.out.nd_at (show m < n by omega)
  have HT : Hid (topF g = (g.getD m nd0).op) := Lib.hid (by unfold topF; rw [hl, hm1]; rfl)
  have hn0 : n ≠ 0 := by omega
  have hz : ((n : Int) == 0) = false := by simpa using hn0
  unfold maxLen at hm
  have hw1 : wrap64 ((n : Int) - 1) = (m : Int) := by unfold wrap64; omega
  have hw2 : IntKind.i64.wrap ((n : Int) - 1) = (m : Int) := by rw [IntKind.wrap_i64]; omega
  have hw3 : (n : Int) - 1 = (m : Int) := by omega
  have hw4 : wrap64 (m : Int) = (m : Int) := by unfold wrap64; omega
  have hmn : m < n := by omega
  generalize g.getD m nd0 = y at *
  clear hR hl hne hm1
  go_enter Tryd.func69, Tryd.ntmps69
  go_wp2
  go_ret
  exact ⟨by rw [HT.out]; rfl, rfl⟩
set_option maxHeartbeats 4000000 in
theorem pModal_any (f : List Nd) (A : Option Addr) (n c : Nat) (w : World) (hR : Reads w w.heap.size 6 A n (nds f)) (hm : n ≤ maxLen) :
    Calls Tryd.prog 19 #[.slice A n c] w fun e w' => ∃ v, e = .returned (.tuple #[v, .int .i64 (fErr f)]) ∧ LL w' w.heap.size v (if fErr f = 0 then modL (subsF f) else []) ∧ Below w.heap.size w w' := by
  have HV := Lib.hid (pCheck_any f A n c w hR hm)
  have HR := Lib.hid hR
  by_cases hz : fErr f = 0
  · obtain ⟨s1, s2⟩ := subs_len8 hz
    have h200 := (fErr_ok hz).2.1
    have HS := Lib.hid (fun W (h : Reads W W.heap.size 6 A n (nds f)) => pSubs_any f A n c W h hm)
    rw [hz] at HV
    rw [hz, if_pos rfl]
    have HSL : Hid (∀ g ∈ subsF f, g ≠ [] ∧ g.length ≤ 200) := Lib.hid (fun g hg => ⟨(s2 g hg).1, Nat.le_trans (s2 g hg).2 h200⟩)
    have HSN : Hid ((subsF f).length ≤ 200) := Lib.hid (Nat.le_trans s1 h200)
    obtain ⟨i0, hi, hz0, hz1, hz2⟩ := info_parts Tryd.infoSl
    clear hR hm hz s1 s2 h200
    generalize subsF f = ss at *
    go_enter Tryd.func19, Tryd.ntmps19
    go_wp2_with fail
    refine (HV.out).mono ?_
    rintro e w1 ⟨rfl, hb⟩
    have HB1 := Lib.hid hb
    clear hb
    go_wp2_with fail
    refine (HS.out w1 ((HR.out.below HB1.out).more HB1.out.size)).mono ?_
    rintro e w2 ⟨vs, rfl, hLL, hb2⟩
    obtain ⟨As, cs, rfl, hit⟩ := hLL.slice
    have HIT := Lib.hid hit
    have HLS := Lib.hid hLL
    have HB2 := Lib.hid (HB1.out.trans (hb2.mono HB1.out.size))
    clear hb2 hLL hit
    go_wp2
    go_loopw [5, 7, 16] (fun v _ i wr => ∃ k : Nat, k ≤ ss.length ∧ i = .int .i64 k ∧ Hid (LL wr w2.heap.size v (modL (ss.take k))) ∧ Hid (Below w2.heap.size w2 wr)) (fun _ _ i _ => ss.length - (intOf i).toNat)
    case atStart => exact ⟨0, Nat.zero_le _, rfl, Lib.hid (LL.nil _ _), Lib.hid (Below.refl _ _)⟩
    case round =>
      obtain ⟨k, hk, rfl, HLK, HBR⟩ := hrel
      have hsz := HBR.out.size
      have hsn := HSN.out
      by_cases hlt : k < ss.length
      · obtain ⟨ad, Aj, cj, rfl, hcell, hown⟩ := HIT.out k hlt
        have hab : (ad.add k).block < w2.heap.size := by
          rcases Nat.lt_or_ge (ad.add k).block w2.heap.size with h' | h'
          · exact h'
          · simp [World.cell?, Array.getElem?_eq_none h'] at hcell
        have hcr := (HBR.out.cell (p := ad.add k) hab).trans hcell
        have hmem : ss.getD k [] ∈ ss := by
          rw [List.getD_eq_getElem?_getD, List.getElem?_eq_getElem hlt]
          exact List.getElem_mem _
        obtain ⟨g1, g2⟩ := HSL.out _ hmem
        have HOR := Lib.hid (own_keep1 hown (fun g hg => HBR.out.block g (hown.lt g hg).2))
        have HSUC : Hid (modL (ss.take (k + 1)) = if 8 < topF (ss.getD k []) then modL (ss.take k) ++ [ss.getD k []] else modL (ss.take k)) := Lib.hid (by
          rw [List.take_succ_eq_append_getElem hlt, modL_app]
          have : ss.getD k [] = ss[k] := by rw [List.getD_eq_getElem?_getD, List.getElem?_eq_getElem hlt]; rfl
          rw [this])
        have HNL : Hid ((modL (ss.take k)).length ≤ 200) := Lib.hid (Nat.le_trans (modL_len _) (by rw [List.length_take]; have := HSN.out; omega))
        clear hcell hown hab hmem
        generalize ss.getD k [] = g at *
        obtain ⟨m, hm1⟩ : ∃ m, g.length = m + 1 := ⟨g.length - 1, by
          have : g.length ≠ 0 := by simpa using g1
          omega⟩
        obtain ⟨aq, rfl, hbq, m0, m1, m2, m3, m4, m5⟩ := (Reads.of_own HOR.out).nd_at (show m < g.length by omega)
        have HTQ : Hid (topF g = (g.getD m nd0).op) := Lib.hid (by unfold topF; rw [hm1]; rfl)
        generalize hgq : g.getD m nd0 = y at *
        obtain ⟨t, y1, y2, y3, y4, y5⟩ := y
        rw [HTQ.out] at HSUC
        dsimp only at m0 m1 m2 m3 m4 m5 HSUC
        have hw1 : wrap64 ((g.length : Int) - 1) = (m : Int) := by unfold wrap64; omega
        have hw2 : IntKind.i64.wrap ((g.length : Int) - 1) = (m : Int) := by rw [IntKind.wrap_i64]; omega
        have hw3 : (g.length : Int) - 1 = (m : Int) := by omega
        have hw4 : wrap64 (m : Int) = (m : Int) := by unfold wrap64; omega
        have hmn : m < g.length := by omega
        clear hm1 hgq HTQ m1 m2 m3 m4 m5
        by_cases h8 : 8 < t
        · rw [if_pos h8] at HSUC
          have hd1 : decide (8 < t) = true := decide_eq_true (by omega)
          clear h8
          obtain ⟨ws, hown, hitr⟩ := (HLK.out).row
          have HOW := Lib.hid hown
          have HITR := Lib.hid hitr
          have hnl := HNL.out
          clear hitr
          generalize modL (ss.take k) = ml at *
          go_wp2_with (at_builtin; refine wpList_append_own _ rfl _ _ 29 rfl w2.heap.size 22 i0 (.slice none 0 0) 1 24 Tryd.underlying29 hi hz0 hz1 hz2 rfl (by decide) _ _ _ rfl (hown.alloc _) ⟨wr.heap.size, 0, none⟩ 1 1 [.slice (some aq) g.length cj] rfl rfl ?k1 ?k2 ?k3 ?k4 ?k5 ?_)
          case k2 => intro u hu; simp at hu; subst hu; rfl
          case k3 => unfold maxLen; omega
          case k4 => omega
          case k5 => simp; omega
          case k1 =>
            intro j' u hj'
            match j', hj' with
            | 0, hj' => simp at hj'; subst hj'; simp [Addr.add]
          · intro v' w7 hown' hgrow _
            have HL7 : Hid (LL w7 w2.heap.size v' (modL (ss.take (k + 1)))) := Lib.hid (by rw [HSUC.out]; exact LL.app HOW.out HITR.out HOR.out hown' hgrow)
            have HB7 : Hid (Below w2.heap.size w2 w7) := Lib.hid ((HBR.out.alloc (by omega) _).grown hgrow (by simp; omega) (fun g hg => (HOW.out.lt g hg).1))
            clear hown' hgrow hown
            go_wp2
            go_roundw
            case rel => exact ⟨k + 1, by omega, by go_num, HL7, HB7⟩
            case measure => first | (simp [intOf]; done) | (simp [intOf]; omega)
        · rw [if_neg h8] at HSUC
          have hd1 : decide (8 < t) = false := decide_eq_false (by omega)
          clear h8
          go_wp2
          go_roundw
          case rel => exact ⟨k + 1, by omega, by go_num, by rw [HSUC.out]; exact HLK, HBR⟩
          case measure => first | (simp [intOf]; done) | (simp [intOf]; omega)
      · have hks : k = ss.length := by omega
        subst hks
        rw [List.take_length] at HLK
        have HBZ := Lib.hid (HB2.out.trans (HBR.out.mono HB2.out.size))
        go_wp2
        go_ret2
        exact ⟨_, rfl, (show LL _ _ _ _ from by obtain ⟨vs', q1, q2⟩ := HLK.out.row; exact ⟨vs', own_base q1 HB2.out.size, q2⟩), HBZ.out⟩
  · rw [if_neg hz]
    clear hR hm
    generalize fErr f = ef at *
    go_enter Tryd.func19, Tryd.ntmps19
    go_wp2_with fail
    refine (HV.out).mono ?_
    rintro e w1 ⟨rfl, hb⟩
    have HB1 := Lib.hid hb
    clear hb
    go_wp2
    go_ret2
    exact ⟨_, rfl, LL.nil _ _, HB1.out⟩
set_option maxHeartbeats 4000000 in
theorem rModal_any (f : List Nd) (A : Option Addr) (n c : Nat) (w : World) (hR : Reads w w.heap.size 6 A n (nds f)) (hm : n ≤ maxLen) :
    Calls Tryd.prog 20 #[.slice A n c] w fun e w' => ∃ v, e = .returned (.tuple #[v, .int .i64 (fErr f)]) ∧ LL w' w.heap.size v (if fErr f = 0 then modL (subsF f) else []) ∧ Below w.heap.size w w' := by
  have HV := Lib.hid (rCheck_any f A n c w hR hm)
  have HR := Lib.hid hR
  by_cases hz : fErr f = 0
  · obtain ⟨s1, s2⟩ := subs_len8 hz
    have h200 := (fErr_ok hz).2.1
    have HS := Lib.hid (fun W (h : Reads W W.heap.size 6 A n (nds f)) => rSubs_any f A n c W h hm)
    rw [hz] at HV
    rw [hz, if_pos rfl]
    have HSL : Hid (∀ g ∈ subsF f, g ≠ [] ∧ g.length ≤ 200) := Lib.hid (fun g hg => ⟨(s2 g hg).1, Nat.le_trans (s2 g hg).2 h200⟩)
    have HSN : Hid ((subsF f).length ≤ 200) := Lib.hid (Nat.le_trans s1 h200)
    obtain ⟨i0, hi, hz0, hz1, hz2⟩ := info_parts Tryd.infoSl
    clear hR hm hz s1 s2 h200
    generalize subsF f = ss at *
    go_enter Tryd.func20, Tryd.ntmps20
    go_wp2_with fail
    refine (HV.out).mono ?_
    rintro e w1 ⟨rfl, hb⟩
    have HB1 := Lib.hid hb
    clear hb
    go_wp2_with fail
    refine (HS.out w1 ((HR.out.below HB1.out).more HB1.out.size)).mono ?_
    rintro e w2 ⟨vs, rfl, hLL, hb2⟩
    obtain ⟨As, cs, rfl, hit⟩ := hLL.slice
    have HIT := Lib.hid hit
    have HLS := Lib.hid hLL
    have HB2 := Lib.hid (HB1.out.trans (hb2.mono HB1.out.size))
    clear hb2 hLL hit
    go_wp2
    go_loopw [5, 7, 16] (fun v _ i wr => ∃ k : Nat, k ≤ ss.length ∧ i = .int .i64 k ∧ Hid (LL wr w2.heap.size v (modL (ss.take k))) ∧ Hid (Below w2.heap.size w2 wr)) (fun _ _ i _ => ss.length - (intOf i).toNat)
    case atStart => exact ⟨0, Nat.zero_le _, rfl, Lib.hid (LL.nil _ _), Lib.hid (Below.refl _ _)⟩
    case round =>
      obtain ⟨k, hk, rfl, HLK, HBR⟩ := hrel
      have hsz := HBR.out.size
      have hsn := HSN.out
      by_cases hlt : k < ss.length
      · obtain ⟨ad, Aj, cj, rfl, hcell, hown⟩ := HIT.out k hlt
        have hab : (ad.add k).block < w2.heap.size := by
          rcases Nat.lt_or_ge (ad.add k).block w2.heap.size with h' | h'
          · exact h'
          · simp [World.cell?, Array.getElem?_eq_none h'] at hcell
        have hcr := (HBR.out.cell (p := ad.add k) hab).trans hcell
        have hmem : ss.getD k [] ∈ ss := by
          rw [List.getD_eq_getElem?_getD, List.getElem?_eq_getElem hlt]
          exact List.getElem_mem _
        obtain ⟨g1, g2⟩ := HSL.out _ hmem
        have HOR := Lib.hid (own_keep1 hown (fun g hg => HBR.out.block g (hown.lt g hg).2))
        have HSUC : Hid (modL (ss.take (k + 1)) = if 8 < topF (ss.getD k []) then modL (ss.take k) ++ [ss.getD k []] else modL (ss.take k)) := Lib.hid (by
          rw [List.take_succ_eq_append_getElem hlt, modL_app]
          have : ss.getD k [] = ss[k] := by rw [List.getD_eq_getElem?_getD, List.getElem?_eq_getElem hlt]; rfl
          rw [this])
        have HNL : Hid ((modL (ss.take k)).length ≤ 200) := Lib.hid (Nat.le_trans (modL_len _) (by rw [List.length_take]; have := HSN.out; omega))
        clear hcell hown hab hmem
        generalize ss.getD k [] = g at *
        have HT := Lib.hid (top_any g Aj g.length cj wr (Reads.of_own HOR.out) g1 (by unfold maxLen; omega))
        generalize htq : topF g = t at *
        clear htq
        by_cases h8 : 8 < t
        · rw [if_pos h8] at HSUC
          have hd1 : decide (9 ≤ t) = true := decide_eq_true (by omega)
          clear h8
          go_wp2_with fail
          refine (HT.out).mono ?_
          rintro r w4 ⟨rfl, rfl⟩
          obtain ⟨ws, hown, hitr⟩ := (HLK.out).row
          have HOW := Lib.hid hown
          have HITR := Lib.hid hitr
          have hnl := HNL.out
          clear hitr
          generalize modL (ss.take k) = ml at *
          go_wp2_with (at_builtin; refine wpList_append_own _ rfl _ _ 29 rfl w2.heap.size 22 i0 (.slice none 0 0) 1 24 Tryd.underlying29 hi hz0 hz1 hz2 rfl (by decide) _ _ _ rfl (hown.alloc _) ⟨wr.heap.size, 0, none⟩ 1 1 [.slice Aj g.length cj] rfl rfl ?k1 ?k2 ?k3 ?k4 ?k5 ?_)
          case k2 => intro u hu; simp at hu; subst hu; rfl
          case k3 => unfold maxLen; omega
          case k4 => omega
          case k5 => simp; omega
          case k1 =>
            intro j' u hj'
            match j', hj' with
            | 0, hj' => simp at hj'; subst hj'; simp [Addr.add]
          · intro v' w7 hown' hgrow _
            have HL7 : Hid (LL w7 w2.heap.size v' (modL (ss.take (k + 1)))) := Lib.hid (by rw [HSUC.out]; exact LL.app HOW.out HITR.out HOR.out hown' hgrow)
            have HB7 : Hid (Below w2.heap.size w2 w7) := Lib.hid ((HBR.out.alloc (by omega) _).grown hgrow (by simp; omega) (fun g hg => (HOW.out.lt g hg).1))
            clear hown' hgrow hown
            go_wp2
            go_roundw
            case rel => exact ⟨k + 1, by omega, by go_num, HL7, HB7⟩
            case measure => first | (simp [intOf]; done) | (simp [intOf]; omega)
        · rw [if_neg h8] at HSUC
          have hd1 : decide (9 ≤ t) = false := decide_eq_false (by omega)
          clear h8
          go_wp2_with fail
          refine (HT.out).mono ?_
          rintro r w4 ⟨rfl, rfl⟩
          go_wp2
          go_roundw
          case rel => exact ⟨k + 1, by omega, by go_num, by rw [HSUC.out]; exact HLK, HBR⟩
          case measure => first | (simp [intOf]; done) | (simp [intOf]; omega)
      · have hks : k = ss.length := by omega
        subst hks
        rw [List.take_length] at HLK
        have HBZ := Lib.hid (HB2.out.trans (HBR.out.mono HB2.out.size))
        go_wp2
        go_ret2
        exact ⟨_, rfl, (show LL _ _ _ _ from by obtain ⟨vs', q1, q2⟩ := HLK.out.row; exact ⟨vs', own_base q1 HB2.out.size, q2⟩), HBZ.out⟩
  · rw [if_neg hz]
    clear hR hm
    generalize fErr f = ef at *
    go_enter Tryd.func20, Tryd.ntmps20
    go_wp2_with fail
    refine (HV.out).mono ?_
    rintro e w1 ⟨rfl, hb⟩
    have HB1 := Lib.hid hb
    clear hb
    go_wp2
    go_ret2
    exact ⟨_, rfl, LL.nil _ _, HB1.out⟩
end Go.Proofs.YtkkkomkljpolbaaDoor
