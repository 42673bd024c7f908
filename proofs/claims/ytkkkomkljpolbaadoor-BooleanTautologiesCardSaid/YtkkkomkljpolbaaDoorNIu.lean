/- Layer 9: the reference's tautologies. -/
import Derived.Test.YtkkkomkljpolbaaDoorNIt
import Derived.Test.YtkkkomkljpolbaaDoorNIv
import Derived.Test.YtkkkomkljpolbaaDoorNJl
namespace Go.Proofs.YtkkkomkljpolbaaDoor
open Go.RowKit Go.Proofs.Ws Go.Maps
set_option maxRecDepth 100000
theorem is_app9 (a b : List Int) : is (a ++ b) = is a ++ is b := by simp [is]
theorem wrap_pow10 {e : Nat} (he : e ≤ 10) : wrap64 ((2 : Int) ^ e) = ((2 ^ e : Nat) : Int) := by
  have : ((2 ^ e : Nat) : Int) = (2 : Int) ^ e := by simp
  rw [← this]
  have h16 : 2 ^ e ≤ 1024 := Nat.pow_le_pow_right (n := 2) (by decide) he
  generalize (2 ^ e : Nat) = z at *
  unfold wrap64
  omega
/-- the numbers of the atoms of the first i nodes -/
def atL (ats : List Nat) (i : Nat) : List Int := (List.range i).map (fun j => atN ats j ats.length)
theorem atL_succ (ats : List Nat) (i : Nat) : atL ats (i + 1) = atL ats i ++ [atN ats i ats.length] := by
  unfold atL
  rw [List.range_succ, List.map_append]
  rfl
theorem atL_at (ats : List Nat) {n i : Nat} (h : i < n) : (atL ats n).getD i 0 = atN ats i ats.length := by
  unfold atL
  rw [List.getD_eq_getElem?_getD, List.getElem?_map, List.getElem?_range h]
  rfl
theorem own_int9 {W : World} {b n : Nat} {v : Value} {l : List Int} (h : W.ownsRow b 3 1 v n (is l)) {k : Nat} (hk : k < n) : ∃ A c, v = .slice (some A) n c ∧ W.cell? (A.add k) = some (.int .i64 (l.getD k 0)) := by
  obtain ⟨A, c, rfl⟩ := own_sl h
  obtain ⟨ad, hA, _, hc⟩ := (Reads.of_own h).is_at hk
  subst hA
  exact ⟨ad, c, rfl, hc⟩
/-- the formulas of the atoms tell the nodes -/
theorem atom_tell {f : List Nd} (hz : fErr f = 0) {k i : Nat} (hk : k < (atomsOf (compF f)).length) (hi : i < (compF f).length) : decide ((atomsG f).getD k [] = subF (compF f) (i : Int)) = decide ((atomsOf (compF f)).getD k 0 = i) := by
  have hok := compF_ok hz
  have hlt := (atoms_lt (fErr_ops hok) (fErr_ok hok).1 ((atomsOf (compF f)).getD k 0) (by
    rw [List.getD_eq_getElem?_getD, List.getElem?_eq_getElem hk]; exact List.getElem_mem _)).1
  have e : (atomsG f).getD k [] = subF (compF f) (((atomsOf (compF f)).getD k 0 : Nat) : Int) := by
    unfold atomsG
    rw [List.getD_eq_getElem?_getD, List.getElem?_map, List.getElem?_eq_getElem hk, List.getD_eq_getElem?_getD, List.getElem?_eq_getElem hk]
    rfl
  rw [e]
  refine decide_eq_decide.2 ⟨fun h => sub_inj hz hlt hi h, fun h => by rw [h]⟩
theorem tauE_bad {f : List Nd} (h : fErr f ≠ 0) : tauE f = fErr f ∧ tauV f = false := by
  have e : tauE f = fErr f := by unfold tauE; rw [if_pos h]
  exact ⟨e, by unfold tauV; rw [e, decide_eq_false h]; rfl⟩
theorem tauE_many {f : List Nd} (hz : fErr f = 0) (h : 10 < (atomsOf (compF f)).length) : tauE f = 8 ∧ tauV f = false := by
  have e : tauE f = 8 := by unfold tauE; rw [if_neg (by omega), if_pos h]
  exact ⟨e, by unfold tauV; rw [e]; rfl⟩
/-- the truth of the last node where the atoms are as facts says -/
def lastA (q : List Nd) (ats : List Nat) (facts : Nat) : Bool := (bL q (gA ats facts) q.length).getD (q.length - 1) false
set_option maxHeartbeats 8000000 in
theorem rTaut_any (f : List Nd) (A : Option Addr) (n c : Nat) (w : World) (hR : Reads w w.heap.size 6 A n (nds f)) (hm : n ≤ maxLen) :
    Calls Tryd.prog 38 #[.slice A n c] w fun e w' => e = .returned (.tuple #[.bool (tauV f), .int .i64 (tauE f)]) ∧ Below w.heap.size w w' := by
  have HV := Lib.hid (rAtoms_any f A n c w hR hm)
  have HR := Lib.hid hR
  by_cases hz : fErr f = 0
  · rw [hz, if_pos rfl] at HV
    have hal := atomsG_len f
    by_cases hmany : 10 < (atomsOf (compF f)).length
    · obtain ⟨e1, e2⟩ := tauE_many hz hmany
      rw [e1, e2]
      clear hR e1 e2
      generalize (atomsOf (compF f)).length = m at *
      generalize atomsG f = ls at *
      go_enter Tryd.func38, Tryd.ntmps38
      go_wp2_with fail
      refine (HV.out).mono ?_
      rintro e w1 ⟨v, rfl, hll, hb1⟩
      have HB1 := Lib.hid hb1
      obtain ⟨A1, c1, rfl, _⟩ := hll.item
      have hd : decide (10 < (ls.length : Int)) = true := decide_eq_true (by omega)
      clear hll hb1
      go_wp2
      go_ret2
      exact ⟨rfl, HB1.out⟩
    · have HC : Hid (∀ W, Below w.heap.size w W → Calls Tryd.prog 62 #[.slice A n c] W fun e w' => ∃ A' c', e = .returned (.slice A' (compF f).length c') ∧ Reads w' w'.heap.size 6 A' (compF f).length (nds (compF f)) ∧ Below W.heap.size W w') := Lib.hid (fun W h => rCompact_any f A n c W (up8 HR.out h) hm)
      have hok := compF_ok hz
      have hq2 := (fErr_ok hok).2.1
      have hq1 : (compF f).length ≠ 0 := by simpa using (fErr_ok hok).1
      have HOP := Lib.hid (fErr_ops hok)
      have HFL : Hid (∀ i, i < (compF f).length → fldOk ((compF f).getD i nd0)) := Lib.hid (fun i hi => fErr_fld hok _ (getD_mem hi))
      have HK1 : Hid (∀ i, i < (compF f).length → 1 ≤ ((compF f).getD i nd0).op) := Lib.hid (fun i hi => by
        have h := (HFL.out i hi).1
        unfold known at h
        simp only [Bool.and_eq_true, decide_eq_true_eq] at h
        exact h.1)
      have HND := Lib.hid (atoms_nodup HOP.out (fErr_ok hok).1)
      have HAT := Lib.hid (fun i (h : i ∈ atomsOf (compF f)) => (atoms_lt HOP.out (fErr_ok hok).1 i h).2)
      have HSUB : Hid (∀ (A' : Option Addr) (c' : Nat) (W : World) (i : Nat), Reads W W.heap.size 6 A' (compF f).length (nds (compF f)) → Calls Tryd.prog 98 #[.slice A' (compF f).length c', .int .i64 (i : Int)] W fun e w' => ∃ A2 c2, e = .returned (.slice A2 (subF (compF f) (i : Int)).length c2) ∧ Reads w' w'.heap.size 6 A2 (subF (compF f) (i : Int)).length (nds (subF (compF f) (i : Int))) ∧ Below W.heap.size W w') := Lib.hid (fun A' c' W i h => rSub_any (compF f) (i : Int) A' _ c' W h (by unfold maxLen; omega))
      have HSL : Hid (∀ i : Int, (subF (compF f) i).length ≤ 1000) := Lib.hid (fun i => by have := subF_le9 (compF f) i; omega)
      have HTELL : Hid (∀ k i : Nat, k < (atomsOf (compF f)).length → i < (compF f).length → decide ((atomsG f).getD k [] = subF (compF f) (i : Int)) = decide ((atomsOf (compF f)).getD k 0 = i)) := Lib.hid (fun k i hk hi => atom_tell hz hk hi)
      have HLS : Hid (∀ k, k < (atomsOf (compF f)).length → ((atomsG f).getD k []).length ≤ 1000) := Lib.hid (fun k hk => by
        have hmem : (atomsG f).getD k [] ∈ atomsG f := by rw [List.getD_eq_getElem?_getD, List.getElem?_eq_getElem (by rw [hal]; exact hk)]; exact List.getElem_mem _
        obtain ⟨j, _, e⟩ := List.mem_map.1 hmem
        rw [← e]
        exact HSL.out _)
      obtain ⟨te0, htv⟩ := taut_iff9 hz (by omega : (atomsOf (compF f)).length ≤ 10)
      have HTV : Hid (tauV f = true ↔ ∀ facts, facts < 2 ^ (atomsOf (compF f)).length → lastA (compF f) (atomsOf (compF f)) facts = true) := Lib.hid htv
      rw [te0]
      obtain ⟨m, hml⟩ : ∃ m, (atomsOf (compF f)).length = m := ⟨_, rfl⟩
      have HML := Lib.hid hml
      have HAG : Hid ((atomsG f).length = m) := Lib.hid (hal.trans hml)
      rw [hml] at HTELL HLS HTV hmany
      clear hR hok hal htv te0 hml HR
      generalize tauV f = tv at *
      generalize atomsG f = ls at *
      generalize atomsOf (compF f) = ats at *
      generalize compF f = q at *
      obtain ⟨iI, hiI, hz0I, hz1I, hz2I⟩ := info_parts Tryd.infoI
      obtain ⟨iB, hiB, hz0B, hz1B, hz2B⟩ := info_parts Tryd.infoB
      go_enter Tryd.func38, Tryd.ntmps38
      go_wp2_with fail
      refine (HV.out).mono ?_
      rintro e w1 ⟨v, rfl, hll, hb1⟩
      have HB1 := Lib.hid hb1
      obtain ⟨A1, c1, rfl, hit⟩ := hll.item
      have HIT := Lib.hid hit
      have hlm := HAG.out
      rw [hlm] at HIT
      rw [hlm]
      have hd : decide (10 < (m : Int)) = false := decide_eq_false (by omega)
      clear hll hb1 hit hlm HV
      go_wp2_with fail
      refine (HC.out _ HB1.out).mono ?_
      rintro e w2 ⟨A3, c3, rfl, hR3, hb2⟩
      have HR3 := Lib.hid hR3
      have HB2 : Hid (Below w.heap.size w w2) := Lib.hid (HB1.out.trans (hb2.mono HB1.out.size))
      have HIT : Hid (∀ k, k < m → ∃ ad Aj cj, A1 = some ad ∧ w2.cell? (ad.add k) = some (.slice Aj (ls.getD k []).length cj) ∧ Reads w2 w2.heap.size 6 Aj (ls.getD k []).length (nds (ls.getD k []))) := Lib.hid (fun k hk => by
        obtain ⟨ad, Aj, cj, h1, h2, h3⟩ := HIT.out k hk
        exact ⟨ad, Aj, cj, h1, (hb2.cell (World.block_lt_of_cell? w1 _ h2)).trans h2, up8 h3 hb2⟩)
      clear hR3 hb2 HB1 HC hd
      go_wp2
      go_loopw [6, 7, 8, 9] (fun v i _ _ wr => ∃ i' : Nat, i' ≤ q.length ∧ i = .int .i64 i' ∧ Hid (wr.ownsRow w2.heap.size 3 1 v i' (is (atL ats i'))) ∧ Hid (Below w2.heap.size w2 wr)) (fun _ i _ _ _ => q.length - (intOf i).toNat)
      case atStart => exact ⟨0, Nat.zero_le _, rfl, Lib.hid (World.ownsRow_nil _ _ _ _), Lib.hid (Below.refl _ _)⟩
      case round =>
        obtain ⟨i, hi, rfl, HA1, HB1⟩ := hrel
        have hszi := HB1.out.size
        by_cases hli : i < q.length
        · as_aux_lemma =>
            go_wp2
            rename World => wo
            go_loopw [8, 9] (fun at_ k wr => ∃ k' : Nat, k' ≤ m ∧ k = .int .i64 k' ∧ at_ = .int .i64 (atN ats i k') ∧ Hid (Below wo.heap.size wo wr)) (fun _ k _ => m - (intOf k).toNat)
            case atStart => exact ⟨0, Nat.zero_le _, rfl, rfl, Lib.hid (Below.refl _ _)⟩
            case round =>
              obtain ⟨k, hk, rfl, rfl, HBK⟩ := hrel
              have HBW : Hid (Below w2.heap.size w2 wr) := Lib.hid (HB1.out.trans (HBK.out.mono hszi))
              by_cases hlk : k < m
              · obtain ⟨adl, Aj, cj, rfl, hcl, hrl⟩ := HIT.out k hlk
                have hbl := World.block_lt_of_cell? w2 _ hcl
                have hcw := (HBW.out.cell hbl).trans hcl
                have HRL := Lib.hid ((hrl.below HBW.out).more HBW.out.size)
                have HTL := Lib.hid (HTELL.out k i hlk hli)
                have hgl := HLS.out k hlk
                have HSB := Lib.hid (fun W (h : Below w2.heap.size w2 W) => HSUB.out A3 c3 W i (up8 HR3.out h))
                have HSS := Lib.hid (HSL.out (i : Int))
                have HBd : Hid (Below w2.heap.size w2 wr.drew) := Lib.hid HBW.out.drew
                have hcd : wr.drew.cell? (adl.add k) = some (.slice Aj (ls.getD k []).length cj) := hcw
                have hszr := HBW.out.size
                have H18 : Hid (∀ (W : World) (A2 : Option Addr) (c2 : Nat), Below w2.heap.size w2 W → Reads W W.heap.size 6 A2 (subF q (i : Int)).length (nds (subF q (i : Int))) → Calls Tryd.prog 18 #[.slice Aj (ls.getD k []).length cj, .slice A2 (subF q (i : Int)).length c2] W fun e w' => e = .returned (.bool (decide (ats.getD k 0 = i))) ∧ Below W.heap.size W w') := Lib.hid (fun W A2 c2 h hr => by
                  have h2 := rEqual_any (ls.getD k []) (subF q (i : Int)) Aj A2 _ _ cj c2 W ((hrl.below h).more h.size) hr (by unfold maxLen; omega) (by unfold maxLen; have := HSS.out; omega)
                  rw [HTL.out] at h2
                  exact h2)
                have HNX : Hid (atN ats i (k + 1) = if ats.getD k 0 = i then (k : Int) else atN ats i k) := Lib.hid (by
                  by_cases e : ats.getD k 0 = i
                  · rw [if_pos e, atN_hit HND.out (by rw [HML.out]; exact hlk) e]
                  · rw [if_neg e, atN_miss (by rw [HML.out]; exact hlk) e])
                clear hcl hrl HTL hgl HSS HRL
                generalize (ls.getD k []).length = lg at *
                by_cases e : ats.getD k 0 = i
                · have HN2 : Hid (atN ats i (k + 1) = (k : Int)) := Lib.hid (HNX.out.trans (if_pos e))
                  rw [decide_eq_true e] at H18
                  clear e HNX
                  as_aux_lemma =>
                    go_wp2_with fail
                    go_region_with (first | (go_at_call 98; refine (HSB.out _ HBd.out).mono ?_; rintro e w4 ⟨A2, c2, rfl, hr4, hb4⟩; have HR4 := Lib.hid hr4; have HB4 : Hid (Below w2.heap.size w2 w4) := Lib.hid (HBd.out.trans (hb4.mono HBd.out.size)); have hc4 : w4.cell? (adl.add k) = some (.slice Aj lg cj) := (hb4.cell (World.block_lt_of_cell? wr.drew _ hcd)).trans hcd; have HBK4 : Hid (Below wo.heap.size wo w4) := Lib.hid (HBK.out.drew.trans (hb4.mono HBK.out.drew.size)); clear hr4 hb4) | (go_at_call 18; refine (H18.out _ A2 c2 HB4.out HR4.out).mono ?_; rintro e w5 ⟨rfl, hb5⟩; have HBK5 : Hid (Below wo.heap.size wo w5) := Lib.hid (HBK4.out.trans (hb5.mono HBK4.out.size)); clear hb5))
                    all_goals
                      clear hcw hcd
                      go_wp2
                      go_roundw
                      case rel => exact ⟨k + 1, by omega, by go_num, by rw [HN2.out], HBK5⟩
                      case measure => simp [intOf]; omega
                · have HN2 : Hid (atN ats i (k + 1) = atN ats i k) := Lib.hid (HNX.out.trans (if_neg e))
                  rw [decide_eq_false e] at H18
                  clear e HNX
                  as_aux_lemma =>
                    go_wp2_with fail
                    go_region_with (first | (go_at_call 98; refine (HSB.out _ HBd.out).mono ?_; rintro e w4 ⟨A2, c2, rfl, hr4, hb4⟩; have HR4 := Lib.hid hr4; have HB4 : Hid (Below w2.heap.size w2 w4) := Lib.hid (HBd.out.trans (hb4.mono HBd.out.size)); have hc4 : w4.cell? (adl.add k) = some (.slice Aj lg cj) := (hb4.cell (World.block_lt_of_cell? wr.drew _ hcd)).trans hcd; have HBK4 : Hid (Below wo.heap.size wo w4) := Lib.hid (HBK.out.drew.trans (hb4.mono HBK.out.drew.size)); clear hr4 hb4) | (go_at_call 18; refine (H18.out _ A2 c2 HB4.out HR4.out).mono ?_; rintro e w5 ⟨rfl, hb5⟩; have HBK5 : Hid (Below wo.heap.size wo w5) := Lib.hid (HBK4.out.trans (hb5.mono HBK4.out.size)); clear hb5))
                    all_goals
                      clear hcw hcd
                      go_wp2
                      go_roundw
                      case rel => exact ⟨k + 1, by omega, by go_num, by rw [HN2.out], HBK5⟩
                      case measure => simp [intOf]; omega
              · have hkm : k = m := by omega
                subst hkm
                have HSUC := Lib.hid (atL_succ ats i)
                have HO1 := Lib.hid (own_keep1 HA1.out (fun g hg => HBK.out.block g (HA1.out.lt g hg).2))
                have HBW2 := HBW
                have HAK : Hid (atN ats i k = atN ats i ats.length) := Lib.hid (by rw [HML.out])
                have hO := HO1.out
                have hszw := HBW.out.size
                clear hlk HB1 HA1 HBK
                rw [HAK.out]
                generalize atN ats i ats.length = z at *
                go_wp2_with (at_builtin; refine wpList_append_own _ rfl _ _ 60 rfl w2.heap.size 3 iI (.int .i64 0) 1 8 Tryd.underlying60 hiI hz0I hz1I hz2I rfl (by decide) _ _ _ rfl (hO.alloc _) ⟨wr.heap.size, 0, none⟩ 1 1 [.int .i64 z] rfl rfl ?k1 ?k2 ?k3 ?k4 ?k5 ?_)
                case k1 =>
                  intro j u hj
                  match j, hj with
                  | 0, hj => simp at hj; subst hj; simp [Addr.add]
                case k2 => intro u hu; simp at hu; subst hu; rfl
                case k3 => unfold maxLen; omega
                case k4 => omega
                case k5 => simp; omega
                intro v' w5 hown' hgrow _
                have HA5 : Hid (w5.ownsRow w2.heap.size 3 1 v' (i + 1) (is (atL ats (i + 1)))) := Lib.hid (by rw [HSUC.out, is_app9]; exact hown')
                have HB5 : Hid (Below w2.heap.size w2 w5) := Lib.hid ((HBW2.out.alloc HBW2.out.size _).grown hgrow (by simp; omega) (fun g hg => (HO1.out.lt g hg).1))
                clear hown' hgrow hO
                go_wp2
                go_roundw
                case rel => exact ⟨i + 1, by omega, by go_num, HA5, HB5⟩
                case measure => simp [intOf]; omega
        · have hiq : i = q.length := by omega
          subst hiq
          as_aux_lemma =>
            obtain ⟨Aa, ca, rfl⟩ := own_sl HA1.out
            have HAR : Hid (∀ W, Below wr.heap.size wr W → ∀ i, i < q.length → ∃ ad, Aa = some ad ∧ W.cell? (ad.add i) = some (.int .i64 (atN ats i m))) := Lib.hid (fun W hW i hi => by
              obtain ⟨ad, e, hb, hc⟩ := (Reads.of_own HA1.out).is_at hi
              refine ⟨ad, e, ?_⟩
              rw [atL_at ats hi, HML.out] at hc
              exact (hW.cell (World.block_lt_of_cell? wr _ hc)).trans hc)
            have HR3 := Lib.hid (up8 HR3.out HB1.out)
            have HBA : Hid (Below w.heap.size w wr) := Lib.hid (HB2.out.trans (HB1.out.mono HB2.out.size))
            obtain ⟨P, hP⟩ : ∃ P, 2 ^ m = P := ⟨_, rfl⟩
            have hsh : wrap64 ((2 : Int) ^ m) = (P : Int) := by rw [wrap_pow10 (by omega), hP]
            have hP64 : P ≤ 1024 := by rw [← hP]; exact Nat.pow_le_pow_right (n := 2) (by decide) (show m ≤ 10 by omega)
            have HHS := Lib.hid hsh
            rw [hP] at HTV
            have hixm : ∀ i, i ∈ ats → ats.idxOf i < m := fun i hi => by rw [← HML.out]; exact List.idxOf_lt_length_of_mem hi
            have HIX := Lib.hid hixm
            clear hli HA1 hP hsh hixm HB1 HB2 HIT HSUB HSL HTELL HLS
            rename World => wa
            go_wp2
            go_loopw [10, 11, 12, 13] (fun fc _ _ _ wr => ∃ k : Nat, k ≤ P ∧ fc = .int .i64 k ∧ Hid (∀ u, u < k → lastA q ats u = true) ∧ Hid (Below wa.heap.size wa wr)) (fun fc _ _ _ _ => P - (intOf fc).toNat)
            case atStart => exact ⟨0, Nat.zero_le _, rfl, Lib.hid (fun u h => absurd h (Nat.not_lt_zero _)), Lib.hid (Below.refl _ _)⟩
            case round =>
              obtain ⟨k, hk, rfl, HLA, HBK⟩ := hrel
              by_cases hkp : k < P
              · have hsh := HHS.out
                go_wp2
                try rw [hsh]
                clear hsh
                go_loopw [11, 12, 13] (fun v i _ wr => ∃ i' : Nat, i' ≤ q.length ∧ i = .int .i64 i' ∧ Hid (wr.ownsRow wa.heap.size 4 1 v i' (bs (bL q (gA ats k) i'))) ∧ Hid (Below wa.heap.size wa wr)) (fun _ i _ _ => q.length - (intOf i).toNat)
                case atStart => exact ⟨0, Nat.zero_le _, rfl, Lib.hid (World.ownsRow_nil _ _ _ _), HBK⟩
                case round =>
                  obtain ⟨i, hi, rfl, HV2, HBI⟩ := hrel
                  by_cases hli : i < q.length
                  · obtain ⟨ad, rfl, hb, m0, m1, m2, m3, m4, m5⟩ := (HR3.out.below HBI.out).nd_at hli
                    have l1 := add_cell m1
                    have l2 := add_cell m2
                    have l3 := add_cell m3
                    have l4 := add_cell m4
                    have l5 := add_cell m5
                    obtain ⟨aa, rfl, hca⟩ := HAR.out wr HBI.out i hli
                    obtain ⟨Av, cv, rfl⟩ := own_sl HV2.out
                    have hszi := HBI.out.size
                    have HBS := Lib.hid (bL_succ q (gA ats k) i)
                    by_cases hmem : i ∈ ats
                    · rw [atN_in HML.out.symm hmem] at hca
                      rw [bNode_atom (HAT.out i hmem), gA_in hmem] at HBS
                      have hx := HIX.out i hmem
                      generalize ats.idxOf i = x at *
                      have hbit := bit_i64 k x (by omega)
                      have hge : decide ((0 : Int) ≤ (x : Int)) = true := decide_eq_true (by omega)
                      have HSUC : Hid (bs (bL q (gA ats k) (i + 1)) = bs (bL q (gA ats k) i) ++ [.bool (k.testBit x)]) := Lib.hid (by rw [HBS.out, bs_append]; rfl)
                      generalize k.testBit x = bv at *
                      have hO := HV2.out
                      clear HBS hmem
                      as_aux_lemma =>
                        go_wp2_with (at_builtin; refine wpList_append_own _ rfl _ _ 94 rfl wa.heap.size 4 iB (.bool false) 1 1 Tryd.underlying94 hiB hz0B hz1B hz2B rfl (by decide) _ _ _ rfl (hO.alloc _) ⟨wr.heap.size, 0, none⟩ 1 1 [.bool bv] rfl rfl ?k1 ?k2 ?k3 ?k4 ?k5 ?_)
                        case k1 =>
                          intro j u hj
                          match j, hj with
                          | 0, hj => simp at hj; subst hj; simp [Addr.add]
                        case k2 => intro u hu; simp at hu; subst hu; rfl
                        case k3 => unfold maxLen; omega
                        case k4 => omega
                        case k5 => simp; omega
                        intro v' w5 hown' hgrow _
                        have HV5 : Hid (w5.ownsRow wa.heap.size 4 1 v' (i + 1) (bs (bL q (gA ats k) (i + 1)))) := Lib.hid (by rw [HSUC.out]; exact hown')
                        have HB5 : Hid (Below wa.heap.size wa w5) := Lib.hid ((HBI.out.alloc HBI.out.size _).grown hgrow (by simp; omega) (fun g hg => (hO.lt g hg).1))
                        clear hown' hgrow hO
                        go_wp2
                        go_roundw
                        case rel => exact ⟨i + 1, by omega, by go_num, HV5, HB5⟩
                        case measure => simp [intOf]; omega
                    · rw [atN_out HML.out.symm hmem] at hca
                      rw [gA_out hmem] at HBS
                      have h1 := HK1.out i hli
                      by_cases h8 : (q.getD i nd0).op ≤ 8
                      · have CV := value_any (q.getD i nd0) (bL q (gA ats k) i) Av i cv 0 wr (Reads.of_own HV2.out) h1 h8 (by decide) (HFL.out i hli) (HOP.out i hli)
                        rw [Nat.zero_testBit] at CV
                        have HPR := Lib.hid (fun W => prop_any (q.getD i nd0).op W)
                        rw [decide_eq_true (show 1 ≤ (q.getD i nd0).op ∧ (q.getD i nd0).op ≤ 8 from ⟨h1, h8⟩)] at HPR
                        have HSUC : Hid (bs (bL q (gA ats k) (i + 1)) = bs (bL q (gA ats k) i) ++ [.bool (bNode (q.getD i nd0).op ((bL q (gA ats k) i).getD (q.getD i nd0).x.toNat false) ((bL q (gA ats k) i).getD (q.getD i nd0).y.toNat false) false)]) := Lib.hid (by rw [HBS.out, bs_append]; rfl)
                        have CV : Hid (Calls Tryd.prog 93 #[.agg #[.int .i64 (q.getD i nd0).op, .int .i64 (q.getD i nd0).i, .int .i64 (q.getD i nd0).e, .int .i64 (q.getD i nd0).g, .int .i64 (q.getD i nd0).x, .int .i64 (q.getD i nd0).y], .slice Av i cv, .int .i64 0] wr fun e w' => e = .returned (.bool (bNode (q.getD i nd0).op ((bL q (gA ats k) i).getD (q.getD i nd0).x.toNat false) ((bL q (gA ats k) i).getD (q.getD i nd0).y.toNat false) false)) ∧ Below wr.heap.size wr w') := Lib.hid CV
                        clear HBS hmem h1 h8
                        generalize q.getD i nd0 = x at *
                        obtain ⟨op, ni, ne, ng, nx, ny⟩ := x
                        dsimp only at m0 m1 m2 m3 m4 m5 l1 l2 l3 l4 l5 CV HSUC HPR
                        generalize bNode op ((bL q (gA ats k) i).getD nx.toNat false) ((bL q (gA ats k) i).getD ny.toNat false) false = bv at *
                        as_aux_lemma =>
                          go_wp2_with fail
                          refine (HPR.out _).mono ?_
                          rintro e w3 ⟨rfl, rfl⟩
                          go_wp2_with fail
                          refine (CV.out).mono ?_
                          rintro e w4 ⟨rfl, hb4⟩
                          have hO := own_keep1 HV2.out (fun g hg => hb4.block g (HV2.out.lt g hg).2)
                          have HBI : Hid (Below wa.heap.size wa w4) := Lib.hid (HBI.out.trans (hb4.mono HBI.out.size))
                          have hszi := HBI.out.size
                          clear hb4 CV m0 m1 m2 m3 m4 m5 l1 l2 l3 l4 l5
                          go_wp2_with (at_builtin; refine wpList_append_own _ rfl _ _ 94 rfl wa.heap.size 4 iB (.bool false) 1 1 Tryd.underlying94 hiB hz0B hz1B hz2B rfl (by decide) _ _ _ rfl (hO.alloc _) ⟨w4.heap.size, 0, none⟩ 1 1 [.bool bv] rfl rfl ?k1 ?k2 ?k3 ?k4 ?k5 ?_)
                          case k1 =>
                            intro j u hj
                            match j, hj with
                            | 0, hj => simp at hj; subst hj; simp [Addr.add]
                          case k2 => intro u hu; simp at hu; subst hu; rfl
                          case k3 => unfold maxLen; omega
                          case k4 => omega
                          case k5 => simp; omega
                          intro v' w5 hown' hgrow _
                          have HV5 : Hid (w5.ownsRow wa.heap.size 4 1 v' (i + 1) (bs (bL q (gA ats k) (i + 1)))) := Lib.hid (by rw [HSUC.out]; exact hown')
                          have HB5 : Hid (Below wa.heap.size wa w5) := Lib.hid ((HBI.out.alloc HBI.out.size _).grown hgrow (by simp; omega) (fun g hg => (hO.lt g hg).1))
                          clear hown' hgrow hO
                          go_wp2
                          go_roundw
                          case rel => exact ⟨i + 1, by omega, by go_num, HV5, HB5⟩
                          case measure => simp [intOf]; omega
                      · have HPR := Lib.hid (fun W => prop_any (q.getD i nd0).op W)
                        rw [decide_eq_false (show ¬ (1 ≤ (q.getD i nd0).op ∧ (q.getD i nd0).op ≤ 8) from fun h => h8 h.2)] at HPR
                        rw [bNode_big (by omega)] at HBS
                        have HSUC : Hid (bs (bL q (gA ats k) (i + 1)) = bs (bL q (gA ats k) i) ++ [.bool false]) := Lib.hid (by rw [HBS.out, bs_append]; rfl)
                        clear HBS hmem h1 h8
                        generalize q.getD i nd0 = x at *
                        as_aux_lemma =>
                          go_wp2_with fail
                          refine (HPR.out _).mono ?_
                          rintro e w3 ⟨rfl, rfl⟩
                          have hO := HV2.out
                          go_wp2_with (at_builtin; refine wpList_append_own _ rfl _ _ 94 rfl wa.heap.size 4 iB (.bool false) 1 1 Tryd.underlying94 hiB hz0B hz1B hz2B rfl (by decide) _ _ _ rfl (hO.alloc _) ⟨wr.heap.size, 0, none⟩ 1 1 [.bool false] rfl rfl ?k1 ?k2 ?k3 ?k4 ?k5 ?_)
                          case k1 =>
                            intro j u hj
                            match j, hj with
                            | 0, hj => simp at hj; subst hj; simp [Addr.add]
                          case k2 => intro u hu; simp at hu; subst hu; rfl
                          case k3 => unfold maxLen; omega
                          case k4 => omega
                          case k5 => simp; omega
                          intro v' w5 hown' hgrow _
                          have HV5 : Hid (w5.ownsRow wa.heap.size 4 1 v' (i + 1) (bs (bL q (gA ats k) (i + 1)))) := Lib.hid (by rw [HSUC.out]; exact hown')
                          have HB5 : Hid (Below wa.heap.size wa w5) := Lib.hid ((HBI.out.alloc HBI.out.size _).grown hgrow (by simp; omega) (fun g hg => (hO.lt g hg).1))
                          clear hown' hgrow hO
                          go_wp2
                          go_roundw
                          case rel => exact ⟨i + 1, by omega, by go_num, HV5, HB5⟩
                          case measure => simp [intOf]; omega
                  · have hil : i = q.length := by omega
                    subst hil
                    obtain ⟨Av, cv, rfl⟩ := own_sl HV2.out
                    obtain ⟨adv, rfl, _, hlast⟩ := (Reads.of_own HV2.out).bool_at (show q.length - 1 < q.length by omega)
                    have hlb : (bL q (gA ats k) q.length).getD (q.length - 1) false = lastA q ats k := rfl
                    rw [hlb] at hlast
                    have hq9 : ((q.length - 1 : Nat) : Int) = (q.length : Int) - 1 := by omega
                    clear hlb HV2 hli
                    cases hbv : lastA q ats k
                    · rw [hbv] at hlast
                      have htv : tv = false := by
                        rw [Bool.eq_false_iff]
                        intro h
                        have := HTV.out.1 h k hkp
                        rw [hbv] at this
                        cases this
                      subst htv
                      clear hbv
                      go_wp2
                      go_ret2
                      exact ⟨rfl, HBA.out.trans (HBI.out.mono HBA.out.size)⟩
                    · rw [hbv] at hlast
                      have HLA2 : Hid (∀ u, u < k + 1 → lastA q ats u = true) := Lib.hid (fun u hu => by
                        by_cases e : u = k
                        · rw [e]; exact hbv
                        · exact HLA.out u (by omega))
                      clear hbv HLA
                      go_wp2
                      go_roundw
                      case rel => exact ⟨k + 1, by omega, by go_num, HLA2, HBI⟩
                      case measure => simp [intOf]; omega
              · have hkP : P = k := by omega
                subst hkP
                have htv : tv = true := HTV.out.2 HLA.out
                subst htv
                clear hkp HTV
                have hsh := HHS.out
                go_wp2
                go_ret2
                exact ⟨rfl, HBA.out.trans (HBK.out.mono HBA.out.size)⟩
  · obtain ⟨e1, e2⟩ := tauE_bad hz
    rw [e1, e2]
    rw [if_neg hz] at HV
    have hz1 : (fErr f != 0) = true := by simpa using hz
    generalize fErr f = z at *
    clear hz e1 e2
    go_enter Tryd.func38, Tryd.ntmps38
    go_wp2_with fail
    refine (HV.out).mono ?_
    rintro e w1 ⟨v, rfl, _, hb1⟩
    have HB1 := Lib.hid hb1
    clear hb1
    go_wp2
    go_ret2
    exact ⟨rfl, HB1.out⟩
end Go.Proofs.YtkkkomkljpolbaaDoor
