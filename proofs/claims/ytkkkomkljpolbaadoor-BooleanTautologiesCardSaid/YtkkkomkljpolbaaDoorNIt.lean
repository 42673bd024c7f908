/- Layer 9: the reference's atoms. -/
import Derived.Test.YtkkkomkljpolbaaDoorNIs
import Derived.Test.YtkkkomkljpolbaaDoorNRk
namespace Go.Proofs.YtkkkomkljpolbaaDoor
open Go.RowKit Go.Proofs.Ws Go.Maps
set_option maxRecDepth 100000
set_option maxHeartbeats 4000000 in
theorem rMeet_any (ls : List (List Nd)) (f : List Nd) (A : Option Addr) (c base : Nat) (v : Value) (w : World) (hL : LL w base v ls) (hO : w.ownsRow 0 62 6 (.slice A f.length c) f.length (nds f)) (hfl : f.length ≤ 1000) (hll : ls.length ≤ 1000) (hml : ∀ g ∈ ls, g.length ≤ 1000) (hb : base ≤ w.heap.size) :
    Calls Tryd.prog 97 #[v, .slice A f.length c] w fun e w' => ∃ v', e = .returned v' ∧ Hid (LL w' base v' (appN ls f)) ∧ Hid (Below base w w') ∧ Hid (∀ (V : Value) (k : Nat) (xs : List Value), w.ownsRow 0 62 6 V k xs → w'.ownsRow 0 62 6 V k xs) := by
  obtain ⟨Av, cv, rfl, hit⟩ := hL.slice
  have HIT := Lib.hid hit
  have HLL := Lib.hid hL
  have HO := Lib.hid hO
  have HFL := Lib.hid hfl
  have HML := Lib.hid hml
  have HB := Lib.hid hb
  obtain ⟨i0, hi, hz0, hz1, hz2⟩ := info_parts Tryd.infoSl
  clear hit hL hO hml hb
  go_enter Tryd.func97, Tryd.ntmps97
  go_wp2
  go_loopw [5] (fun i wr => ∃ k : Nat, k ≤ ls.length ∧ i = .int .i64 k ∧ Hid (∀ j, j < k → ls.getD j [] ≠ f) ∧ Hid (Below w.heap.size w wr)) (fun i _ => ls.length - (intOf i).toNat)
  case atStart => exact ⟨0, Nat.zero_le _, rfl, Lib.hid (fun j hj => absurd hj (by omega)), Lib.hid (Below.refl _ _)⟩
  case round =>
    obtain ⟨k, hk, rfl, HN, HBR⟩ := hrel
    by_cases hlt : k < ls.length
    · obtain ⟨ad, Aj, cj, rfl, hcell, hown⟩ := HIT.out k hlt
      have hab : (ad.add k).block < w.heap.size := by
        rcases Nat.lt_or_ge (ad.add k).block w.heap.size with h' | h'
        · exact h'
        · simp [World.cell?, Array.getElem?_eq_none h'] at hcell
      have hcr := (HBR.out.cell (p := ad.add k) hab).trans hcell
      have hmem : ls.getD k [] ∈ ls := by
        rw [List.getD_eq_getElem?_getD, List.getElem?_eq_getElem hlt]
        exact List.getElem_mem _
      have hgl := HML.out _ hmem
      have CE := Lib.hid (rEqual_any (ls.getD k []) f Aj A (ls.getD k []).length f.length cj c wr (Reads.of_own (own_keep1 hown (fun g hg => HBR.out.block g (hown.lt g hg).2))) (Reads.of_own (own_keep1 HO.out (fun g hg => HBR.out.block g (HO.out.lt g hg).2))) (by unfold maxLen; omega) (by unfold maxLen; omega))
      clear hcell hown hab
      by_cases he : ls.getD k [] = f
      · have HE := Lib.hid (show appN ls f = ls from if_pos (by rw [← he]; exact hmem))
        rw [decide_eq_true he] at CE
        clear he hmem hgl
        generalize (ls.getD k []).length = lg at *
        go_wp2_with fail
        refine (CE.out).mono ?_
        rintro e w2 ⟨rfl, hb2⟩
        have HB2 := Lib.hid (HBR.out.trans (hb2.mono HBR.out.size))
        clear hb2 CE
        go_wp2
        go_ret
        refine ⟨_, rfl, Lib.hid ?_, Lib.hid (HB2.out.mono HB.out), Lib.hid (fun V k xs h => own_keep1 h (fun g hg => HB2.out.block g (h.lt g hg).2))⟩
        rw [HE.out]
        exact HLL.out.below HB2.out
      · have HN2 : Hid (∀ j, j < k + 1 → ls.getD j [] ≠ f) := Lib.hid (fun j hj => by
          by_cases e : j = k
          · subst e; exact he
          · exact HN.out j (by omega))
        rw [decide_eq_false he] at CE
        clear he hmem hgl
        generalize (ls.getD k []).length = lg at *
        go_wp2_with fail
        refine (CE.out).mono ?_
        rintro e w2 ⟨rfl, hb2⟩
        have HB2 := Lib.hid (HBR.out.trans (hb2.mono HBR.out.size))
        clear hb2 CE
        go_wp2
        go_roundw
        case rel => exact ⟨k + 1, by omega, by go_num, HN2, HB2⟩
        case measure => first | (simp [intOf]; done) | (simp [intOf]; omega)
    · have hkl : k = ls.length := by omega
      subst hkl
      have HE := Lib.hid (show appN ls f = ls ++ [f] from if_neg (fun hm => by
        obtain ⟨j, hj, hj2⟩ := List.getElem_of_mem hm
        refine HN.out j hj ?_
        rw [List.getD_eq_getElem?_getD, List.getElem?_eq_getElem hj]
        exact hj2))
      obtain ⟨vs, hown, hitr⟩ := (HLL.out.below HBR.out).row
      have HOW := Lib.hid hown
      have HITR := Lib.hid hitr
      have HOF := Lib.hid (own_keep1 HO.out (fun g hg => HBR.out.block g (HO.out.lt g hg).2))
      have hszr := HBR.out.size
      have hbb := HB.out
      clear hitr
      go_wp2_with (at_builtin; refine wpList_append_own _ rfl _ _ 29 rfl base 22 i0 (.slice none 0 0) 1 24 Tryd.underlying29 hi hz0 hz1 hz2 rfl (by decide) _ _ _ rfl (hown.alloc _) ⟨wr.heap.size, 0, none⟩ 1 1 [.slice A f.length c] rfl rfl ?k1 ?k2 ?k3 ?k4 ?k5 ?_)
      case k2 => intro u hu; simp at hu; subst hu; rfl
      case k3 => unfold maxLen; omega
      case k4 => omega
      case k5 => simp; omega
      case k1 =>
        intro j u hj
        match j, hj with
        | 0, hj => simp at hj; subst hj; simp [Addr.add]
      · intro v' w5 hown' hgrow _
        have HL5 : Hid (LL w5 base v' (ls ++ [f])) := Lib.hid (LL.app HOW.out HITR.out HOF.out hown' hgrow)
        have HB5 : Hid (Below base w w5) := Lib.hid (((HBR.out.mono hbb).alloc (by omega) _).grown hgrow (by simp; omega) (fun g hg => (HOW.out.lt g hg).1))
        have HK5 : Hid (∀ (V : Value) (k : Nat) (xs : List Value), w.ownsRow 0 62 6 V k xs → w5.ownsRow 0 62 6 V k xs) := Lib.hid (fun V k xs h => by
          have h2 := own_keep1 h (fun g hg => HBR.out.block g (h.lt g hg).2)
          refine own_keep1 h2 (fun g hg => ?_)
          have hlt := (h2.lt g hg).2
          exact (hgrow.block g (Nat.lt_of_lt_of_le hlt (by simp)) (fun e => own_apart h2 HOW.out (by decide) hg e.symm)).trans (Below.heap_alloc wr _ g hlt))
        clear hown' hgrow hown
        go_wp2
        go_ret
        exact ⟨v', rfl, by rw [HE.out]; exact HL5, HB5, HK5⟩
theorem subF_le9 (f : List Nd) (i : Int) : (subF f i).length ≤ f.length := by
  unfold subF
  split
  · rename_i h
    obtain ⟨k, rfl⟩ : ∃ k : Nat, i = (k : Int) := ⟨i.toNat, by omega⟩
    rw [Int.toNat_natCast, canon_take (fErr_ops h.1) (by omega)]
    exact finW_out_le (fErr_ops h.1) k (by omega)
  · exact Nat.zero_le _
/-- the atoms' formulas, as far as the order has been walked -/
def atF (q : List Nd) (l : List Nat) : List (List Nd) := (atomsL q l).map (fun i : Nat => subF q (i : Int))
theorem atF_all (f : List Nd) : atF (compF f) (ordL (compF f)) = atomsG f := by unfold atF atomsG; rw [ordL_atoms]
theorem comp_bd {f : List Nd} (hz : fErr f = 0) : Bd (compF f) := by
  rw [compF_tree hz]
  have hne : f.length ≠ 0 := by simpa using (fErr_ok hz).1
  exact ⟨canT_nodup _, canT_ops (treeAt_ok (fErr_ops hz) f.length _ (by omega) (by omega))⟩
theorem sub_inj {f : List Nd} (hz : fErr f = 0) {i j : Nat} (hi : i < (compF f).length) (hj : j < (compF f).length) (h : subF (compF f) (i : Int) = subF (compF f) (j : Int)) : i = j := by
  have hok := compF_ok hz
  rw [subF_tree hok hi, subF_tree hok hj] at h
  have ho := fErr_ops hok
  exact tree_inj (comp_bd hz) hi hj (canT_inj (treeAt_ok ho (i + 1) i (by omega) hi) (treeAt_ok ho (j + 1) j (by omega) hj) h)
theorem atF_succ {f : List Nd} (hz : fErr f = 0) {l : List Nat} (hn : l.Nodup) (hl : ∀ i ∈ l, i < (compF f).length) {k : Nat} (hk : k < l.length) :
    atF (compF f) (l.take (k + 1)) = if atomOp ((compF f).getD (l.getD k 0) nd0).op = true then appN (atF (compF f) (l.take k)) (subF (compF f) ((l.getD k 0 : Nat) : Int)) else atF (compF f) (l.take k) := by
  unfold atF
  rw [atomsL_take _ _ hk]
  by_cases h : atomOp ((compF f).getD (l.getD k 0) nd0).op = true
  · rw [if_pos h, if_pos h, List.map_append]
    unfold appN
    rw [if_neg]
    · rfl
    · intro hm
      obtain ⟨j, hj, e⟩ := List.mem_map.1 hm
      have hjl : j ∈ l := List.mem_of_mem_take (List.mem_filter.1 hj).1
      have hkl : l.getD k 0 ∈ l := by rw [List.getD_eq_getElem?_getD, List.getElem?_eq_getElem hk]; exact List.getElem_mem _
      have := sub_inj hz (hl j hjl) (hl _ hkl) e
      rw [this] at hj
      exact atomsL_new hn hk hj
  · rw [if_neg h, if_neg h]
theorem atF_len (q : List Nd) (l : List Nat) : (atF q l).length ≤ l.length := by unfold atF; rw [List.length_map]; exact atomsL_le q l
theorem atF_small {q : List Nd} (hq : q.length ≤ 200) (l : List Nat) : ∀ g ∈ atF q l, g.length ≤ 1000 := fun g hg => by
  obtain ⟨i, _, rfl⟩ := List.mem_map.1 hg
  have := subF_le9 q (i : Int)
  omega
theorem atF_take {q : List Nd} {l : List Nat} (k : Nat) (hk : k = l.length) : atF q (l.take k) = atF q l := by rw [hk, List.take_length]
theorem own_low {W : World} {b size n : Nat} {e : TypeId} {v : Value} {xs : List Value} (h : W.ownsRow b e size v n xs) : W.ownsRow 0 e size v n xs := by
  obtain ⟨h1, h2⟩ := h
  refine ⟨h1, ?_⟩
  rcases h2 with h2 | ⟨g, cap, cur, e1, _, rest⟩
  · exact .inl h2
  · exact .inr ⟨g, cap, cur, e1, Nat.zero_le _, rest⟩
theorem iv_read9 {W : World} {B n : Nat} {A : Option Addr} {l : List Nat} (h : Reads W B 1 A n (iv l)) {k : Nat} (hk : k < n) : ∃ ad, A = some ad ∧ ad.block < B ∧ W.cell? (ad.add k) = some (.int .i64 ((l.getD k 0 : Nat) : Int)) := iv_read h hk
set_option maxHeartbeats 8000000 in
theorem rAtoms_any (f : List Nd) (A : Option Addr) (n c : Nat) (w : World) (hR : Reads w w.heap.size 6 A n (nds f)) (hm : n ≤ maxLen) :
    Calls Tryd.prog 35 #[.slice A n c] w fun e w' => ∃ v, e = .returned (.tuple #[v, .int .i64 (fErr f)]) ∧ LL w' w.heap.size v (if fErr f = 0 then atomsG f else []) ∧ Below w.heap.size w w' := by
  have HV := Lib.hid (rCheck_any f A n c w hR hm)
  have HR := Lib.hid hR
  by_cases hz : fErr f = 0
  · have HC : Hid (∀ W, Below w.heap.size w W → Calls Tryd.prog 62 #[.slice A n c] W fun e w' => ∃ A' c', e = .returned (.slice A' (compF f).length c') ∧ Reads w' w'.heap.size 6 A' (compF f).length (nds (compF f)) ∧ Below W.heap.size W w') := Lib.hid (fun W h => rCompact_any f A n c W (up8 HR.out h) hm)
    have hok := compF_ok hz
    have hq2 := (fErr_ok hok).2.1
    have hq1 : (compF f).length ≠ 0 := by simpa using (fErr_ok hok).1
    have hqne := (fErr_ok hok).1
    have HOP := Lib.hid (fErr_ops hok)
    have HKN := Lib.hid (fErr_known hok)
    have HOL := Lib.hid (fun i (hi : i ∈ ordL (compF f)) => ordL_lt HOP.out hqne hi)
    have HMO := Lib.hid (ordL_ok HOP.out hqne)
    have hof : (ordL (compF f)).length ≤ 200 := Nat.le_trans HMO.out.few hq2
    have HSU := Lib.hid (fun k (hk : k < (ordL (compF f)).length) => atF_succ (l := ordL (compF f)) hz HMO.out.nodup HOL.out hk)
    have HAL : Hid (atF (compF f) (ordL (compF f)) = atomsG f) := Lib.hid (atF_all f)
    have HAN := Lib.hid (fun k => atF_len (compF f) ((ordL (compF f)).take k))
    have HAS := Lib.hid (fun k => atF_small hq2 ((ordL (compF f)).take k))
    have HSUB : Hid (∀ (A' : Option Addr) (c' : Nat) (W : World) (i : Nat), Reads W W.heap.size 6 A' (compF f).length (nds (compF f)) → Calls Tryd.prog 98 #[.slice A' (compF f).length c', .int .i64 (i : Int)] W fun e w' => ∃ A2 c2, e = .returned (.slice A2 (subF (compF f) (i : Int)).length c2) ∧ w'.ownsRow W.heap.size 62 6 (.slice A2 (subF (compF f) (i : Int)).length c2) (subF (compF f) (i : Int)).length (nds (subF (compF f) (i : Int))) ∧ Below W.heap.size W w') := Lib.hid (fun A' c' W i h => rSub_own (compF f) (i : Int) A' _ c' W h (by unfold maxLen; omega))
    have HSL : Hid (∀ i : Int, (subF (compF f) i).length ≤ 1000) := Lib.hid (fun i => by have := subF_le9 (compF f) i; omega)
    rw [hz, if_pos rfl]
    rw [hz] at HV
    rw [← HAL.out]
    generalize compF f = q at *
    clear hR hok hqne HAL
    go_enter Tryd.func35, Tryd.ntmps35
    go_wp2_with fail
    refine (HV.out).mono ?_
    rintro e wA ⟨rfl, hbA⟩
    have HBA := Lib.hid hbA
    clear hbA
    go_wp2_with fail
    refine (HC.out _ HBA.out).mono ?_
    rintro e w1 ⟨A3, c3, rfl, hR3, hb1⟩
    have HR3 := Lib.hid hR3
    have HB1 : Hid (Below w.heap.size w w1) := Lib.hid (HBA.out.trans (hb1.mono HBA.out.size))
    clear hR3 hb1 HBA HC HR HV
    have HTR := Lib.hid (trunk_any q A3 q.length c3 w1 HR3.out HOP.out HKN.out (by omega) hq2)
    go_wp2_with fail
    refine (HTR.out).mono ?_
    rintro e w2 ⟨A4, c4, rfl, hown, hb2⟩
    have HR3 := Lib.hid (up8 HR3.out hb2)
    have HB2 : Hid (Below w.heap.size w w2) := Lib.hid (HB1.out.trans (hb2.mono HB1.out.size))
    have HO4 := Lib.hid (Reads.of_own hown)
    clear hb2 hown HTR HB1
    generalize ho : ordL q = ol at *
    have HOQ := Lib.hid ho
    clear ho
    have hszw := HB2.out.size
    go_wp2
    go_loopw [6, 7, 8] (fun v i _ wr => ∃ k : Nat, k ≤ ol.length ∧ i = .int .i64 k ∧ Hid (LL wr w2.heap.size v (atF q (ol.take k))) ∧ Hid (Below w2.heap.size w2 wr)) (fun _ i _ _ => ol.length - (intOf i).toNat)
    case atStart => exact ⟨0, Nat.zero_le _, rfl, Lib.hid (LL.nil _ _), Lib.hid (Below.refl _ _)⟩
    case round =>
      obtain ⟨k, hk, rfl, HL, HB⟩ := hrel
      by_cases hlt : k < ol.length
      · have hok := HOL.out (ol.getD k 0) (by rw [List.getD_eq_getElem?_getD, List.getElem?_eq_getElem hlt]; exact List.getElem_mem _)
        have HS := Lib.hid (HSU.out k hlt)
        have HN1 := Lib.hid (HAN.out k)
        have HS1 := Lib.hid (HAS.out k)
        obtain ⟨ad4, rfl, hb4, h4⟩ := iv_read (HO4.out.below HB.out) hlt
        have hkn := HKN.out _ hok
        generalize ol.getD k 0 = i at *
        obtain ⟨ad, rfl, hb, m0, m1, m2, m3, m4, m5⟩ := (HR3.out.below HB.out).nd_at hok
        have l1 := add_cell m1
        have l2 := add_cell m2
        have l3 := add_cell m3
        have l4 := add_cell m4
        have l5 := add_cell m5
        have hszr := HB.out.size
        have hk1 : 1 ≤ (q.getD i nd0).op := by
          unfold known at hkn
          simp only [Bool.and_eq_true, decide_eq_true_eq] at hkn
          exact hkn.1
        clear hkn
        generalize q.getD i nd0 = x at *
        obtain ⟨op, ni, ne, ng, nx, ny⟩ := x
        dsimp only at m0 m1 m2 m3 m4 m5 l1 l2 l3 l4 l5 HS hk1
        have HPR := Lib.hid (fun W => prop_any op W)
        have HBX : Hid (Below w2.heap.size w2 (wr.alloc (.cells #[.int .i64 op, .int .i64 ni, .int .i64 ne, .int .i64 ng, .int .i64 nx, .int .i64 ny] 62))) := Lib.hid (HB.out.alloc HB.out.size _)
        have HLX : Hid (LL (wr.alloc (.cells #[.int .i64 op, .int .i64 ni, .int .i64 ne, .int .i64 ng, .int .i64 nx, .int .i64 ny] 62)) w2.heap.size u6 (atF q (ol.take k))) := Lib.hid (HL.out.below ((Below.refl _ wr).alloc (Nat.le_refl _) _))
        have h4x : (wr.alloc (.cells #[.int .i64 op, .int .i64 ni, .int .i64 ne, .int .i64 ng, .int .i64 nx, .int .i64 ny] 62)).cell? (ad4.add k) = some (.int .i64 (i : Int)) := (World.cell?_alloc_lt wr _ _ (World.block_lt_of_cell? wr _ h4)).trans h4
        have hszx : w2.heap.size ≤ (wr.alloc (.cells #[.int .i64 op, .int .i64 ni, .int .i64 ne, .int .i64 ng, .int .i64 nx, .int .i64 ny] 62)).heap.size := HBX.out.size
        clear HB HL
        by_cases h3 : op = 3
        · subst h3
          have HS2 : Hid (atF q (ol.take (k + 1)) = appN (atF q (ol.take k)) (subF q (i : Int))) := Lib.hid (HS.out.trans (if_pos rfl))
          clear HS HPR
          go_wp2_with fail
          generalize wr.alloc (.cells #[.int .i64 3, .int .i64 ni, .int .i64 ne, .int .i64 ng, .int .i64 nx, .int .i64 ny] 62) = wx at *
          refine (HSUB.out _ _ _ i (up8 HR3.out HBX.out)).mono ?_
          rintro e w4 ⟨A2, c2, rfl, hown2, hb4⟩
          have HL4 := Lib.hid (HLX.out.below hb4)
          have HB4 : Hid (Below w2.heap.size w2 w4) := Lib.hid (HBX.out.trans (hb4.mono HBX.out.size))
          have hsz4 := HB4.out.size
          have HME := Lib.hid (rMeet_any (atF q (ol.take k)) (subF q (i : Int)) A2 c2 w2.heap.size u6 w4 HL4.out (own_low hown2) (HSL.out _) (by have := HN1.out; simp at this; omega) HS1.out hsz4)
          clear hown2 hb4 HLX HBX HL4
          go_wp2_with fail
          refine (HME.out).mono ?_
          rintro e w5 ⟨v5, rfl, HL5, HB5, _⟩
          rw [← HS2.out] at HL5
          go_wp2
          go_roundw
          case rel => exact ⟨k + 1, by omega, by go_num, HL5, Lib.hid (HB4.out.trans HB5.out)⟩
          case measure => simp [intOf]; omega
        · have d3 : (op == 3) = false := by simpa using h3
          by_cases h8 : op ≤ 8
          · rw [decide_eq_true (show 1 ≤ op ∧ op ≤ 8 from ⟨hk1, h8⟩)] at HPR
            have HS2 : Hid (atF q (ol.take (k + 1)) = atF q (ol.take k)) := Lib.hid (HS.out.trans (if_neg (by unfold atomOp; simp [h3]; omega)))
            clear HS
            go_wp2_with fail
            generalize wr.alloc (.cells #[.int .i64 op, .int .i64 ni, .int .i64 ne, .int .i64 ng, .int .i64 nx, .int .i64 ny] 62) = wx at *
            refine (HPR.out _).mono ?_
            rintro e w3 ⟨rfl, rfl⟩
            go_wp2
            go_roundw
            case rel => exact ⟨k + 1, by omega, by go_num, by rw [HS2.out]; exact HLX, HBX⟩
            case measure => simp [intOf]; omega
          · rw [decide_eq_false (show ¬ (1 ≤ op ∧ op ≤ 8) from fun h => h8 h.2)] at HPR
            have HS2 : Hid (atF q (ol.take (k + 1)) = appN (atF q (ol.take k)) (subF q (i : Int))) := Lib.hid (HS.out.trans (if_pos (by unfold atomOp; simp; omega)))
            clear HS
            go_wp2_with fail
            generalize wr.alloc (.cells #[.int .i64 op, .int .i64 ni, .int .i64 ne, .int .i64 ng, .int .i64 nx, .int .i64 ny] 62) = wx at *
            refine (HPR.out _).mono ?_
            rintro e w3 ⟨rfl, rfl⟩
            go_wp2_with fail
            refine (HSUB.out _ _ _ i (up8 HR3.out HBX.out)).mono ?_
            rintro e w4 ⟨A2, c2, rfl, hown2, hb4⟩
            have HL4 := Lib.hid (HLX.out.below hb4)
            have HB4 : Hid (Below w2.heap.size w2 w4) := Lib.hid (HBX.out.trans (hb4.mono HBX.out.size))
            have hsz4 := HB4.out.size
            have HME := Lib.hid (rMeet_any (atF q (ol.take k)) (subF q (i : Int)) A2 c2 w2.heap.size u6 w4 HL4.out (own_low hown2) (HSL.out _) (by have := HN1.out; simp at this; omega) HS1.out hsz4)
            clear hown2 hb4 HLX HBX HL4
            go_wp2_with fail
            refine (HME.out).mono ?_
            rintro e w5 ⟨v5, rfl, HL5, HB5, _⟩
            rw [← HS2.out] at HL5
            go_wp2
            go_roundw
            case rel => exact ⟨k + 1, by omega, by go_num, HL5, Lib.hid (HB4.out.trans HB5.out)⟩
            case measure => simp [intOf]; omega
      · have hkl : k = ol.length := by omega
        have HL2 : Hid (LL wr w2.heap.size u6 (atF q ol)) := Lib.hid (by have h := HL.out; rw [atF_take k hkl] at h; exact h)
        subst hkl
        clear hlt hk HL
        go_wp2
        go_ret2
        exact ⟨u6, rfl, by rw [HOQ.out]; exact HL2.out.base hszw, HB2.out.trans (HB.out.mono hszw)⟩
  · rw [if_neg hz]
    have hz1 : (fErr f != 0) = true := by simpa using hz
    generalize fErr f = z at *
    clear hz
    go_enter Tryd.func35, Tryd.ntmps35
    go_wp2_with fail
    refine (HV.out).mono ?_
    rintro e w1 ⟨rfl, hb1⟩
    have HB1 := Lib.hid hb1
    clear hb1
    go_wp2
    go_ret2
    exact ⟨_, rfl, LL.nil _ _, HB1.out⟩
end Go.Proofs.YtkkkomkljpolbaaDoor
