/- Layer 8: RewriteClosed: a closure contains the formula, with each formula its negation without a double one, and with each formula the formulas of which it consists; no formula stands in it twice. -/
import Derived.Test.YtkcedppepepgfaaDoorJl
import Derived.Test.YtkcedppepepgfaaDoorQq
import Derived.Test.YtkcedppepepgfaaDoorRk
namespace Go.Proofs.YtkcedppepepgfaaDoor.rewriteClosed
open Go.ChangeShapes Go.WideShapes Go.ChangeAt Go.RowKit Go.Proofs.YtkcedppepepgfaaDoor Go.Proofs.YtkcedppepepgfaaDoor.rwl Go.Proofs.Ws Go.Maps
open Go.ChangeMaps (open_string shut_string)
theorem few_any (A : Option Addr) (n c : Nat) (k : Int) (w : World) : Calls Tryd.prog 10 #[.slice A n c, .int .i64 k] w fun e w' => e = .returned (.bool (decide ((n : Int) ≤ k))) ∧ w = w' := by
  go_enter Tryd.func10, Tryd.ntmps10
  go_wp2
  go_ret
  exact ⟨rfl, rfl⟩
/-- how often a formula stands in a list -/
def cntS : List (List Nd) → List Nd → Nat
  | [], _ => 0
  | h :: l, g => (if sameF g h = true then 1 else 0) + cntS l g
theorem cntS_app (g : List Nd) : ∀ (l : List (List Nd)) (h : List Nd), cntS (l ++ [h]) g = cntS l g + (if sameF g h = true then 1 else 0)
  | [], h => by show _ + cntS [] g = cntS [] g + _; unfold cntS; omega
  | a :: l, h => by
    show (if sameF g a = true then 1 else 0) + cntS (l ++ [h]) g = ((if sameF g a = true then 1 else 0) + cntS l g) + _
    rw [cntS_app g l h]
    omega
theorem can_ok {t : Tr} (h : AllOk t) (hl : (canT t).length ≤ 200) : fErr (canT t) = 0 ∧ tOf (canT t) = t ∧ compF (canT t) = canT t := by
  have e := resL_err h
  rw [resL_short hl, if_neg (by omega)] at e
  have e2 : tOf (canT t) = t := canT_tree h.1
  refine ⟨e, e2, ?_⟩
  have := compF_tree e
  rw [show treeAt (canT t) ((canT t).length - 1) = t from e2] at this
  exact this
theorem same_can {f : List Nd} {s : Tr} (hz : fErr f = 0) (hs : AllOk s) (hl : (canT s).length ≤ 200) : sameF f (canT s) = decide (s = tOf f) := by
  obtain ⟨h1, h2, h3⟩ := can_ok hs hl
  have e : compF f = canT (tOf f) := compF_tree hz
  unfold sameF
  rw [h3, e]
  by_cases k : s = tOf f
  · rw [decide_eq_true k]
    rw [k] at h1 ⊢
    simp [hz, h1]
  · rw [decide_eq_false k]
    have : ¬ canT (tOf f) = canT s := fun e2 => k (canT_inj hs.1 (tOf_all hz).1 e2.symm)
    simp [this]
theorem cnt_can {f : List Nd} (hz : fErr f = 0) : ∀ (l : List Tr), (∀ s ∈ l, AllOk s ∧ (canT s).length ≤ 200) → cntS (l.map canT) f = (l.filter (fun s => decide (s = tOf f))).length
  | [], _ => rfl
  | a :: l, h => by
    have ih := cnt_can hz l (fun s hs => h s (List.mem_cons_of_mem _ hs))
    have ha := h a List.mem_cons_self
    show (if sameF f (canT a) = true then 1 else 0) + cntS (l.map canT) f = _
    rw [ih, same_can hz ha.1 ha.2]
    by_cases k : a = tOf f
    · rw [List.filter_cons_of_pos (by simpa using k), decide_eq_true k, List.length_cons]
      simp; omega
    · rw [List.filter_cons_of_neg (by simpa using k), decide_eq_false k]
      simp
theorem app_can {l : List Tr} {s : Tr} (hl : ∀ r ∈ l, trOk r) (hs : trOk s) : appN (l.map canT) (canT s) = (addT l s).map canT := by
  unfold appN addT
  by_cases h : s ∈ l
  · rw [if_pos h, if_pos (List.mem_map.2 ⟨s, h, rfl⟩)]
  · rw [if_neg h, if_neg (fun k => by
      obtain ⟨r, hr, e⟩ := List.mem_map.1 k
      exact h (canT_inj (hl r hr) hs e ▸ hr)), List.map_append]
    rfl
theorem neg_can {s : Tr} (hs : AllOk s) (hl : (canT s).length ≤ 199) : mapF negT (canT s) = canT (negT s) ∧ mapE negT (canT s) = 0 := by
  obtain ⟨h1, h2, _⟩ := can_ok hs (by omega)
  have := neg_len hs
  unfold mapF mapE
  rw [if_pos h1, if_pos h1, h2]
  refine ⟨resL_short (by omega), ?_⟩
  unfold resE
  rw [if_neg (by omega)]
theorem clos_can : ∀ (ss l : List Tr), (∀ r ∈ l, trOk r) → (∀ s ∈ ss, AllOk s ∧ (canT s).length ≤ 199) → closN (l.map canT) (ss.map canT) = (closT l ss).map canT
  | [], _, _, _ => rfl
  | s :: ss, l, hl, hs => by
    obtain ⟨h1, h2⟩ := hs s List.mem_cons_self
    show closN (appN (appN (l.map canT) (canT s)) (mapF negT (canT s))) (ss.map canT) = (closT (addT (addT l s) (negT s)) ss).map canT
    have hl2 : ∀ r ∈ addT l s, trOk r := fun r hr => by
      rcases addT_mem.1 hr with hr | rfl
      · exact hl r hr
      · exact h1.1
    rw [app_can hl h1.1, (neg_can h1 h2).1, app_can hl2 (all_neg h1).1]
    exact clos_can ss _ (fun r hr => by
      rcases addT_mem.1 hr with hr | rfl
      · exact hl2 r hr
      · exact (all_neg h1).1) (fun r hr => hs r (List.mem_cons_of_mem _ hr))
theorem subs_can {f : List Nd} (hz : fErr f = 0) : subsF f = (treesL (tOf f)).map canT := by
  have e : compF f = canT (tOf f) := compF_tree hz
  have ho := canT_ops (tOf_all hz).1
  unfold subsF treesL
  rw [e, List.map_map]
  refine List.map_congr_left (fun i hi => ?_)
  exact canon_take ho (List.mem_range.1 hi)
theorem sub_few {t s : Tr} (ht : trOk t) (hs : subT s t) : (canT s).length ≤ (canT t).length := by
  rcases canT_len ht hs with e | e
  · rw [e]; exact Nat.le_refl _
  · omega
/-- the closure of a formula with few nodes -/
structure Clo (f : List Nd) (ls : List (List Nd)) : Prop where
  eq : closN [] (subsF f) = ls
  len : ls.length ≤ 400
  self : cntS ls f = 1
  each : ∀ g ∈ ls, g.length ≤ 100 ∧ mapE negT g = 0 ∧ (mapF negT g).length ≤ 100 ∧ cntS ls g = 1 ∧ cntS ls (mapF negT g) = 1 ∧ (subsF g).length ≤ 100 ∧ ∀ s ∈ subsF g, s.length ≤ 200 ∧ cntS ls s = 1
theorem clo_of {f : List Nd} (hz : fErr f = 0) (hf : f.length ≤ 16) : ∃ ls, Clo f ls := by
  have ht := tOf_all hz
  have hlt : (canT (tOf f)).length ≤ 16 := by
    have e : compF f = canT (tOf f) := compF_tree hz
    rw [← e]
    exact Nat.le_trans (compF_le f) hf
  have hmem : ∀ s ∈ treesL (tOf f), AllOk s ∧ (canT s).length ≤ 16 := fun s hs => by
    have h := (treesL_mem ht.1 s).1 hs
    exact ⟨sub_all ht h, Nat.le_trans (sub_few ht.1 h) hlt⟩
  have heq : closN [] (subsF f) = (closOf (tOf f)).map canT := by
    rw [subs_can hz]
    exact clos_can _ [] (fun r hr => absurd hr (by simp)) (fun s hs => ⟨(hmem s hs).1, by have := (hmem s hs).2; omega⟩)
  have hcl : ∀ s ∈ closOf (tOf f), AllOk s ∧ (canT s).length ≤ 17 := fun s hs => by
    obtain ⟨r, h1, h2⟩ := (clos_mem ht.1).1 hs
    have ha := sub_all ht h1
    have hlr := Nat.le_trans (sub_few ht.1 h1) hlt
    rcases h2 with rfl | rfl
    · exact ⟨ha, by omega⟩
    · exact ⟨all_neg ha, by have := neg_len ha; omega⟩
  have cnt : ∀ {g : List Nd}, fErr g = 0 → tOf g ∈ closOf (tOf f) → cntS ((closOf (tOf f)).map canT) g = 1 := fun {g} hg hm => by
    rw [cnt_can hg _ (fun s hs => ⟨(hcl s hs).1, by have := (hcl s hs).2; omega⟩), count_one (clos_nodup _), if_pos hm]
  refine ⟨_, heq, ?_, cnt hz (clos_self ht), fun g hg => ?_⟩
  · rw [← heq]
    have h1 := closN_len (subsF f) []
    have h2 : (subsF f).length ≤ 16 := by
      rw [subs_can hz, List.length_map]
      unfold treesL
      rw [List.length_map, List.length_range]
      exact hlt
    simp at h1
    omega
  · obtain ⟨s, hs, rfl⟩ := List.mem_map.1 hg
    obtain ⟨a, b⟩ := hcl s hs
    obtain ⟨e1, e2, e3⟩ := can_ok a (by omega)
    obtain ⟨n1, n2⟩ := neg_can a (by omega)
    have hnl := neg_len a
    obtain ⟨g1, g2, g3⟩ := can_ok (all_neg a) (by omega)
    refine ⟨by omega, n2, by rw [n1]; omega, cnt e1 (by rw [e2]; exact hs), by rw [n1]; exact cnt g1 (by rw [g2]; exact clos_neg ht hs), ?_, fun r hr => ?_⟩
    · rw [subs_can e1, List.length_map]
      unfold treesL
      rw [List.length_map, List.length_range, e2]
      omega
    · rw [subs_can e1, e2] at hr
      obtain ⟨q, hq, rfl⟩ := List.mem_map.1 hr
      have hsub := (treesL_mem a.1 q).1 hq
      have hql := sub_few a.1 hsub
      obtain ⟨q1, q2, _⟩ := can_ok (sub_all a hsub) (by omega)
      exact ⟨by omega, cnt q1 (by rw [q2]; exact clos_sub ht hs hsub)⟩
theorem lsr_of {W : World} {b : Nat} {A : Option Addr} {c : Nat} {ls : List (List Nd)} (h : LL W b (.slice A ls.length c) ls) (hl : ∀ g ∈ ls, g.length ≤ maxLen) : LsR W W.heap.size A ls.length ls := by
  obtain ⟨vs, h1, h2⟩ := h.row
  refine ⟨rfl, vs, Reads.of_own h1, fun j hj => ?_⟩
  obtain ⟨Aj, cj, e1, e2⟩ := h2 j hj
  have hm : ls.getD j [] ∈ ls := by
    rw [List.getD_eq_getElem?_getD, List.getElem?_eq_getElem hj]
    exact List.getElem_mem _
  exact ⟨Aj, cj, e1, Reads.of_own e2, hl _ hm⟩
set_option maxRecDepth 100000 in
set_option maxHeartbeats 4000000 in
theorem at_any (ls : List (List Nd)) (g : List Nd) (A Al : Option Addr) (c cl bl : Nat) (w : World) (hb : w.cell? ⟨bl, 0, none⟩ = some (.slice Al ls.length cl)) (hL : LsR w w.heap.size Al ls.length ls) (hll : ls.length ≤ 1000) (hR : Reads w w.heap.size 6 A g.length (nds g)) (hg : g.length ≤ 1000) :
    Calls Tryd.prog 31 #[.slice A g.length c, .pointer (some ⟨bl, 0, none⟩)] w fun e w' => e = .returned (.int .i64 ((cntS ls g : Nat) : Int)) ∧ Below w.heap.size w w' := by
  have HL := Lib.hid hL
  have HR := Lib.hid hR
  have hbl : bl < w.heap.size := lt_of_cell ⟨bl, 0, none⟩ _ hb
  clear hL hR
  go_enter Tryd.func31, Tryd.ntmps31
  go_wp2
  go_loopw [4, 6, 9] (fun v _ i wr => ∃ k : Nat, k ≤ ls.length ∧ i = .int .i64 k ∧ v = .int .i64 ((cntS (ls.take k) g : Nat) : Int) ∧ Hid (Below w.heap.size w wr)) (fun _ _ i _ => ls.length - (intOf i).toNat)
  case atStart => exact ⟨0, Nat.zero_le _, rfl, rfl, Lib.hid (Below.refl _ _)⟩
  case round =>
    obtain ⟨k, hk, rfl, rfl, HBR⟩ := hrel
    by_cases hlt : k < ls.length
    · obtain ⟨ad, Aj, cj, rfl, hadb, hadc, hrd, hml⟩ := (HL.out.below HBR.out (Nat.le_refl _)).at_ hlt
      have CS := Lib.hid (rSame_any g (ls.getD k []) A Aj g.length (ls.getD k []).length c cj wr (up8 HR.out HBR.out) (hrd.more HBR.out.size) (by unfold maxLen; omega) hml)
      have hsuc : cntS (ls.take (k + 1)) g = cntS (ls.take k) g + (if sameF g (ls.getD k []) = true then 1 else 0) := by
        rw [List.take_succ_eq_append_getElem hlt, cntS_app]
        have : ls.getD k [] = ls[k] := by rw [List.getD_eq_getElem?_getD, List.getElem?_eq_getElem hlt]; rfl
        rw [this]
      have hle : cntS (ls.take k) g ≤ k := by
        have key : ∀ (l : List (List Nd)), cntS l g ≤ l.length := fun l => by
          induction l with
          | nil => exact Nat.le_refl _
          | cons a l ih =>
            show (if sameF g a = true then 1 else 0) + cntS l g ≤ _
            rw [List.length_cons]
            split <;> omega
        exact Nat.le_trans (key _) (by rw [List.length_take]; omega)
      clear hrd hml
      cases hsm : sameF g (ls.getD k [])
      · rw [hsm] at CS hsuc
        have HSUC : Hid (cntS (ls.take (k + 1)) g = cntS (ls.take k) g) := Lib.hid (by rw [hsuc]; simp)
        clear hsuc hsm
        generalize (ls.getD k []).length = lg at *
        go_wp2_with fail
        refine (CS.out).mono ?_
        rintro r w2 ⟨rfl, hb2⟩
        have HB2 := Lib.hid (HBR.out.trans (hb2.mono HBR.out.size))
        clear hb2
        go_wp2
        go_roundw
        case rel => exact ⟨k + 1, by omega, by go_num, by rw [HSUC.out], HB2⟩
        case measure => first | (simp [intOf]; done) | (simp [intOf]; omega)
      · rw [hsm] at CS hsuc
        have HSUC : Hid (cntS (ls.take (k + 1)) g = cntS (ls.take k) g + 1) := Lib.hid (by rw [hsuc]; simp)
        clear hsuc hsm
        generalize (ls.getD k []).length = lg at *
        generalize cntS (ls.take k) g = cn at *
        go_wp2_with fail
        refine (CS.out).mono ?_
        rintro r w2 ⟨rfl, hb2⟩
        have HB2 := Lib.hid (HBR.out.trans (hb2.mono HBR.out.size))
        clear hb2
        go_wp2
        go_roundw
        case rel => exact ⟨k + 1, by omega, by go_num, by rw [HSUC.out]; go_num, HB2⟩
        case measure => first | (simp [intOf]; done) | (simp [intOf]; omega)
    · have hkl : k = ls.length := by omega
      subst hkl
      rw [List.take_length]
      go_wp2
      go_ret
      exact ⟨rfl, HBR.out⟩
theorem at_one (ls : List (List Nd)) (g : List Nd) (A Al : Option Addr) (c cl bl : Nat) (w : World) (hb : w.cell? ⟨bl, 0, none⟩ = some (.slice Al ls.length cl)) (hL : LsR w w.heap.size Al ls.length ls) (hll : ls.length ≤ 1000) (hR : Reads w w.heap.size 6 A g.length (nds g)) (hg : g.length ≤ 1000) (h1 : cntS ls g = 1) :
    Calls Tryd.prog 31 #[.slice A g.length c, .pointer (some ⟨bl, 0, none⟩)] w fun e w' => e = .returned (.int .i64 1) ∧ Below w.heap.size w w' := by
  have := at_any ls g A Al c cl bl w hb hL hll hR hg
  rw [h1] at this
  exact this
set_option maxRecDepth 100000 in
set_option maxHeartbeats 16000000 in
theorem walk (f : List Nd) (A0 : Option Addr) (n0 c0 : Nat) (w : World) (hE : EnvR w w.heap.size) (h0 : NdRow w A0 n0 c0 f) :
    Calls Tryd.prog 9 #[.slice A0 n0 c0] w fun e w' => e = .returned (.bool true) ∧ Below w.heap.size w w' := by
  obtain ⟨hR, _, _, hm⟩ := h0
  have hl := hR.nd_len
  have HE := Lib.hid hE
  have HR := Lib.hid hR
  have HFE := Lib.hid (few_any A0 n0 c0 16 w)
  have HCK := Lib.hid (rCheck_any f A0 n0 c0 w hR hm)
  by_cases hn : n0 ≤ 16
  · rw [decide_eq_true (show ((n0 : Nat) : Int) ≤ 16 by omega)] at HFE
    by_cases hz : fErr f = 0
    · rw [hz] at HCK
      obtain ⟨ls, hclo⟩ := clo_of hz (by omega)
      have HCLO := Lib.hid hclo
      have hll := hclo.len
      have HZ := Lib.hid hz
      have HCC := Lib.hid (fun (W : World) (h : EnvR W W.heap.size) (h2 : Reads W W.heap.size 6 A0 n0 (nds f)) => pClosure_any f A0 n0 c0 W h h2 hm (fun _ => by omega))
      rw [hz, if_pos rfl, hclo.eq] at HCC
      clear hE hR hclo hz
      subst hl
      go_enter Tryd.func9, Tryd.ntmps9
      go_wp2_with fail
      refine (HFE.out).mono ?_
      rintro r w0 ⟨rfl, rfl⟩
      go_wp2_with fail
      refine (HCK.out).mono ?_
      rintro r w1 ⟨rfl, hb1⟩
      have HB1 := Lib.hid hb1
      clear hb1
      go_wp2_with fail
      refine (HCC.out w1 ((HE.out.below HB1.out).up HB1.out.size) (up8 HR.out HB1.out)).mono ?_
      rintro r w2 ⟨v2, rfl, hL2, hb2⟩
      have HB2 := Lib.hid (HB1.out.trans (hb2.mono HB1.out.size))
      obtain ⟨Al, cl, rfl, _⟩ := hL2.slice
      have HL2 := Lib.hid (lsr_of hL2 (fun g hg => by have := (HCLO.out.each g hg).1; unfold maxLen; omega))
      clear hb2 hL2
      go_wp2_with fail
      have HBA : Hid (Below w2.heap.size w2 (w2.alloc (.cells #[.slice Al ls.length cl] 29))) := Lib.hid ((Below.refl _ w2).alloc (Nat.le_refl _) _)
      have HCB : Hid ((w2.alloc (.cells #[.slice Al ls.length cl] 29)).cell? ⟨w2.heap.size, 0, none⟩ = some (.slice Al ls.length cl)) := Lib.hid (Lib.cell_of_heap (heap_alloc_new w2 (.cells #[.slice Al ls.length cl] 29)) 0)
      generalize w2.alloc (.cells #[.slice Al ls.length cl] 29) = w3 at *
      have HL3 := Lib.hid (HL2.out.below HBA.out HBA.out.size)
      have HB3 := Lib.hid (HB2.out.trans (HBA.out.mono HB2.out.size))
      clear HL2
      generalize w2.heap.size = bl at *
      refine (at_one ls f A0 Al c0 cl bl w3 HCB.out HL3.out (by omega) (up8 HR.out HB3.out) (by omega) HCLO.out.self).mono ?_
      rintro r w4 ⟨rfl, hb4⟩
      have hbl3 : bl < w3.heap.size := lt_of_cell ⟨bl, 0, none⟩ _ HCB.out
      have HCB4 := Lib.hid ((hb4.cell (p := ⟨bl, 0, none⟩) hbl3).trans HCB.out)
      have HL4 := Lib.hid (HL3.out.below hb4 hb4.size)
      have HB4 := Lib.hid (HB3.out.trans (hb4.mono HB3.out.size))
      have hcb4 := HCB4.out
      have hbl4 : bl < w4.heap.size := Nat.lt_of_lt_of_le hbl3 hb4.size
      clear hb4 HCB HL3 hbl3
      go_wp2_with fail
      go_loopw [7, 8, 9, 11, 35] (fun _ _ _ _ i wr => ∃ k : Nat, k ≤ ls.length ∧ i = .int .i64 k ∧ Hid (Below w4.heap.size w4 wr)) (fun _ _ _ _ i _ => ls.length - (intOf i).toNat)
      case atStart => exact ⟨0, Nat.zero_le _, rfl, Lib.hid (Below.refl _ _)⟩
      case round =>
        obtain ⟨k, hk, rfl, HBR⟩ := hrel
        have HBW := Lib.hid (HB4.out.trans (HBR.out.mono HB4.out.size))
        by_cases hlt : k < ls.length
        · have HLR := Lib.hid (HL4.out.below HBR.out HBR.out.size)
          have HCR : Hid (wr.cell? ⟨bl, 0, none⟩ = some (.slice Al ls.length cl)) := Lib.hid ((HBR.out.cell (p := ⟨bl, 0, none⟩) hbl4).trans HCB4.out)
          obtain ⟨ad, Aj, cj, hAl, hadb, hadc, hrd, hml⟩ := HLR.out.at_ hlt
          have hmem : ls.getD k [] ∈ ls := by
            rw [List.getD_eq_getElem?_getD, List.getElem?_eq_getElem hlt]
            exact List.getElem_mem _
          obtain ⟨q1, q2, q3, q4, q5, q6, q7⟩ := HCLO.out.each _ hmem
          subst hAl
          have HRG := Lib.hid hrd
          have CN := Lib.hid (pNegate_any (ls.getD k []) Aj (ls.getD k []).length cj wr ((HE.out.below HBW.out).up HBW.out.size) hrd hml)
          rw [q2] at CN
          have HQ4 := Lib.hid q4
          have HQ5 := Lib.hid q5
          have HQ7 := Lib.hid q7
          clear hrd hmem q2 q4 q5 q7
          generalize mapF negT (ls.getD k []) = ng at *
          generalize ls.getD k [] = g at *
          go_wp2_with fail
          refine (CN.out).mono ?_
          rintro r w5 ⟨An, cn, rfl, hr5, hb5⟩
          have HRN := Lib.hid hr5
          have HB5 := Lib.hid (HBR.out.trans (hb5.mono HBR.out.size))
          have HRG5 := Lib.hid (up8 HRG.out hb5)
          clear hr5 hb5 CN
          go_wp2_with fail
          refine (at_one ls g Aj (some ad) cj cl bl w5 ((HB5.out.cell (p := ⟨bl, 0, none⟩) hbl4).trans HCB4.out) (HL4.out.below HB5.out HB5.out.size) (by omega) HRG5.out (by omega) HQ4.out).mono ?_
          rintro r w6 ⟨rfl, hb6⟩
          have HB6 := Lib.hid (HB5.out.trans (hb6.mono HB5.out.size))
          have HRG6 := Lib.hid (up8 HRG5.out hb6)
          have HRN6 := Lib.hid (up8 HRN.out hb6)
          clear hb6 HRG5 HRN
          go_wp2_with fail
          refine (at_one ls ng An (some ad) cn cl bl w6 ((HB6.out.cell (p := ⟨bl, 0, none⟩) hbl4).trans HCB4.out) (HL4.out.below HB6.out HB6.out.size) (by omega) HRN6.out (by omega) HQ5.out).mono ?_
          rintro r w7 ⟨rfl, hb7⟩
          have HB7 := Lib.hid (HB6.out.trans (hb7.mono HB6.out.size))
          have HRG7 := Lib.hid (up8 HRG6.out hb7)
          clear hb7 HRG6 HRN6
          go_wp2_with fail
          refine (rSubs_any g Aj g.length cj w7 HRG7.out hml).mono ?_
          rintro r w8 ⟨v8, rfl, hL8, hb8⟩
          have HB8 := Lib.hid (HB7.out.trans (hb8.mono HB7.out.size))
          obtain ⟨As, cs, rfl, _⟩ := hL8.slice
          have HLS := Lib.hid (lsr_of hL8 (fun s hs => by have := (HQ7.out s hs).1; unfold maxLen; omega))
          clear hb8 hL8 HRG7
          generalize subsF g = ss at *
          generalize wr = wo at *
          go_wp2
          go_loopw [11, 61] (fun _ i wr => ∃ j : Nat, j ≤ ss.length ∧ i = .int .i64 j ∧ Hid (Below w8.heap.size w8 wr)) (fun _ i _ => ss.length - (intOf i).toNat)
          case atStart => exact ⟨0, Nat.zero_le _, rfl, Lib.hid (Below.refl _ _)⟩
          case round =>
            obtain ⟨j, hj, rfl, HBI⟩ := hrel
            have HB9 := Lib.hid (HB8.out.trans (HBI.out.mono HB8.out.size))
            by_cases hlj : j < ss.length
            · obtain ⟨ad2, A2, c2, hA2, hadb2, hadc2, hrd2, hml2⟩ := (HLS.out.below HBI.out HBI.out.size).at_ hlj
              have hmem : ss.getD j [] ∈ ss := by
                rw [List.getD_eq_getElem?_getD, List.getElem?_eq_getElem hlj]
                exact List.getElem_mem _
              obtain ⟨p1, p2⟩ := HQ7.out _ hmem
              subst hA2
              have HRS := Lib.hid hrd2
              have HP2 := Lib.hid p2
              clear hrd2 hmem p2
              generalize ss.getD j [] = s at *
              go_wp2_with fail
              refine (at_one ls s A2 (some ad) c2 cl bl wr ((HB9.out.cell (p := ⟨bl, 0, none⟩) hbl4).trans HCB4.out) (HL4.out.below HB9.out HB9.out.size) (by omega) HRS.out (by omega) HP2.out).mono ?_
              rintro r w10 ⟨rfl, hb10⟩
              have HB10 := Lib.hid (HBI.out.trans (hb10.mono HBI.out.size))
              clear hb10
              go_wp2
              go_roundw
              case rel => exact ⟨j + 1, by omega, by go_num, HB10⟩
              case measure => first | (simp [intOf]; done) | (simp [intOf]; omega)
            · have hjs : j = ss.length := by omega
              subst hjs
              go_wp2
              go_roundw
              case rel => exact ⟨k + 1, by omega, by go_num, HB9⟩
              case measure => first | (simp [intOf]; done) | (simp [intOf]; omega)
        · have hkl : k = ls.length := by omega
          subst hkl
          go_wp2_with fail
          refine (awake8_any wr ((HE.out.below HBW.out).up HBW.out.size)).mono ?_
          rintro r wz ⟨rfl, hbz⟩
          have HBY := Lib.hid (HBW.out.trans (hbz.mono HBW.out.size))
          clear hbz
          go_wp2
          go_ret
          exact ⟨rfl, HBY.out⟩
    · clear hE hR
      generalize fErr f = ef at *
      go_enter Tryd.func9, Tryd.ntmps9
      go_wp2_with fail
      refine (HFE.out).mono ?_
      rintro r w0 ⟨rfl, rfl⟩
      go_wp2_with fail
      refine (HCK.out).mono ?_
      rintro r w1 ⟨rfl, hb1⟩
      have HB1 := Lib.hid hb1
      clear hb1
      go_wp2_with fail
      refine (awake8_any w1 ((HE.out.below HB1.out).up HB1.out.size)).mono ?_
      rintro r wz ⟨rfl, hbz⟩
      have HBY := Lib.hid (HB1.out.trans (hbz.mono HB1.out.size))
      clear hbz
      go_wp2
      go_ret
      exact ⟨rfl, HBY.out⟩
  · rw [decide_eq_false (show ¬ ((n0 : Nat) : Int) ≤ 16 by omega)] at HFE
    clear hE hR
    go_enter Tryd.func9, Tryd.ntmps9
    go_wp2_with fail
    refine (HFE.out).mono ?_
    rintro r w0 ⟨rfl, rfl⟩
    go_wp2_with fail
    refine (awake8_any w HE.out).mono ?_
    rintro r wz ⟨rfl, hbz⟩
    have HBY := Lib.hid hbz
    clear hbz
    go_wp2
    go_ret
    exact ⟨rfl, HBY.out⟩
set_option maxRecDepth 100000 in
theorem contract (H : Type) (enc : TypeId × Value → H) (W : World) (base : Nat) (args : Array Value) (ds gs : List (DataW H)) (before : List MemPlace)
    (hval : ∀ (j : Nat) t v, Tryd.f9.params[j]? = some t → args[j]? = some v → Value.okWide Tryd.prog W .any base t v)
    (hW : DataW.Whole enc Tryd.prog Tryd.f9.params.toList Rows.rewriteClosedSpec.vars false W args.toList ds gs before) (hE : EnvR W W.heap.size) :
    Calls Tryd.prog 9 args W fun e W' => ∃ v, e = .returned v ∧ Rows.rewriteClosedSpec.post enc Tryd.prog Tryd.f9 false true false false W args v W' := by
  have hW' := hW
  obtain ⟨p, q, hA0, hV, rfl, hfz, hnd⟩ := hW
  have hA : DataW.TrodAll enc Tryd.prog W 0 (fun _ => true) true Tryd.f9.params.toList args.toList ds p := hA0
  rw [Tryd.params9] at hA hval
  obtain ⟨v0, vs0, d0, ds0, p0, q0, hargs, rfl, rfl, h0, r0⟩ := trodAll_cons hA
  obtain ⟨rfl, rfl, rfl⟩ := trodAll_nil r0
  obtain rfl : args = #[v0] := by cases args; simp_all
  obtain ⟨rfl, rfl⟩ := trodVars_none hV
  obtain ⟨af0, nf0, cf0, rfl⟩ := okWide_slice Tryd.underlying22 (hval 0 22 v0 rfl rfl)
  obtain ⟨f0, w0⟩ : ∃ l, NdRow W af0 nf0 cf0 l := by
    obtain ⟨fuel, hf⟩ := h0
    exact open_nodes hf
  have k0 := h0
  have lt0 : ∀ x ∈ p0, x.block < W.heap.size := by obtain ⟨m, hm⟩ := k0; exact DataW.trod_lt m _ _ _ hm
  clear hA0
  have hwalk := walk f0 af0 nf0 cf0 W hE w0
  refine hwalk.mono fun e W' ⟨he, hg⟩ => ?_
  subst he
  exact ⟨_, rfl, _, _, _, [], _, [], hW', trodAll_mk1 (shut_bool Tryd.underlying4 _), (trodAll_cons_mk (Below.trod laidOut (by kernel_rfl) (of_decide_eq_true (by kernel_rfl)) k0 hg lt0) trodAll_mk0), rfl, hg.frame _, fun h => by cases h⟩
theorem reads (os : Os) {H : Type} (enc : TypeId × Value → H) : ∃ places, DataW.whole enc Tryd.prog ((laidW os).forCall (fun _ _ => 0) ⟨#[], #[.slice none 0 0], []⟩).memory Tryd.f9.params.toList Rows.rewriteClosedSpec.vars false #[(.slice none 0 0 : Value)].toList 8 = some ([.nil], [], places) :=
  ⟨[], by kernel_rfl⟩
set_option maxRecDepth 100000 in
theorem lifted (os : Os) (started : os.Started) (H : Type) (enc : TypeId × Value → H) (F : Stop.Interp) :
    ReturnsInHanded {} Tryd.checked os 9 .any ((OpenSpec.ofChange Rows.rewriteClosedSpec).preRow enc Tryd.prog Tryd.f9 Rows.rewriteClosedRow.domain false Rows.rewriteClosedRow.laid) (((OpenSpec.ofChange Rows.rewriteClosedSpec).at F).post enc Tryd.prog Tryd.f9 false true false false) := by
  obtain ⟨places, hx⟩ := reads os enc
  refine returnsInHanded_of_row (C := Tryd.checked) (s := OpenSpec.ofChange Rows.rewriteClosedSpec) own started (by kernel_rfl) Tryd.func9
    (witness_row_atRef (enc := enc) (C := Tryd.checked) false (laidW os) #[.slice none 0 0] (laidW_os os) (vars_ok os _) (heap_ok os _) (by kernel_rfl)
      (OpenSpec.preRow_of_cond 8 hx (by kernel_rfl) (fun k hk => by cases hk) (by kernel_rfl) (laid_met os _))) ?_
  intro W base args ds gs before hval hW _ _ _ hL hsh _
  exact contract H enc W base args ds gs before hval hW (env_of hL)
theorem said : Rows.RewriteClosedSaid :=
  OpenClaim.holds_of_cond 9 Tryd.f9 rfl rfl rfl rfl rfl rfl rfl ⟨rfl, rfl, rfl, rfl, rfl⟩ rfl rfl rfl rfl rfl (by kernel_rfl) Tryd.func9 (by kernel_rfl)
    (of_decide_eq_true (by kernel_rfl)) (by unfold Func.isWrapper; first | (rw [if_pos (by decide +kernel)]; kernel_rfl) | (rw [if_neg (by decide +kernel)]; exact ⟨rfl, rfl⟩))
    (fun os started H enc _ F => by rw [OpenClaim.pre_eq_preRow]; exact lifted os started H enc F)
theorem plain (f : FuncId) (fn : Func) (hf : Tryd.pinned.checked.prog.funcNamed "witting/wittinglaw08.RewriteClosed" = some f) (hfn : Tryd.pinned.checked.prog.funcs[f]? = some fn) :
    false = Tryd.pinned.checked.prog.looks [] ∧ ∀ (j : Nat) t, fn.params[j]? = some t → Tryd.pinned.checked.prog.wantsStandIn t = false := by
  obtain rfl : f = 9 := Option.some.inj ((show Tryd.prog.funcNamed "witting/wittinglaw08.RewriteClosed" = some 9 by kernel_rfl).symm.trans hf) |>.symm
  obtain rfl : fn = Tryd.f9 := (Option.some.inj (Tryd.func9.symm.trans hfn)).symm
  refine ⟨no_looks, fun j t ht => ?_⟩
  rw [Tryd.params9] at ht
  have hm : t ∈ [22] := by simpa using Array.mem_of_getElem? ht
  have hall : ([22].all fun u => !Tryd.prog.wantsStandIn u) = true := by kernel_rfl
  exact (show Tryd.prog.wantsStandIn t = false by simpa using List.all_eq_true.1 hall t hm)
theorem card : Rows.RewriteClosedCardSaid :=
  Claim7.holds_tied_plain_at .later [] _ _ _ _ said (fun _ h => by cases h) (by kernel_rfl) (fun _ h => by cases h) rewriteClosed_row_tie rfl ⟨rfl, rfl⟩ (by kernel_rfl) rfl plain (by kernel_rfl)
#print axioms card
end Go.Proofs.YtkcedppepepgfaaDoor.rewriteClosed
