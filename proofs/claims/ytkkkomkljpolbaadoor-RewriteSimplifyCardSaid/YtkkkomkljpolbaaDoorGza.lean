/- Layer 8: the reference's Closure. -/
import Derived.Test.YtkkkomkljpolbaaDoorGz
namespace Go.Proofs.YtkkkomkljpolbaaDoor
open Go.RowKit Go.Proofs.Ws Go.Maps
set_option maxRecDepth 100000
theorem clos_sucN (ss : List (List Nd)) {k : Nat} (hlt : k < ss.length) : closN [] (ss.take (k + 1)) = appN (appN (closN [] (ss.take k)) (ss.getD k [])) (mapF negT (ss.getD k [])) := by
  rw [List.take_succ_eq_append_getElem hlt, closN_snoc]
  have : ss.getD k [] = ss[k] := by rw [List.getD_eq_getElem?_getD, List.getElem?_eq_getElem hlt]; rfl
  rw [this]
set_option maxHeartbeats 8000000 in
theorem rClosure_any (f : List Nd) (A : Option Addr) (n c : Nat) (w : World) (hR : Reads w w.heap.size 6 A n (nds f)) (hm : n ≤ maxLen) (hfew : fErr f = 0 → f.length ≤ 199) :
    Calls Tryd.prog 22 #[.slice A n c] w fun e w' => ∃ v, e = .returned (.tuple #[v, .int .i64 (fErr f)]) ∧ LL w' w.heap.size v (if fErr f = 0 then closN [] (subsF f) else []) ∧ Below w.heap.size w w' := by
  have HV := Lib.hid (rCheck_any f A n c w hR hm)
  have HR := Lib.hid hR
  by_cases hz : fErr f = 0
  · rw [if_pos hz, hz]
    have HS := Lib.hid (fun W (h : Reads W W.heap.size 6 A n (nds f)) => rSubs_any f A n c W h hm)
    have hss := subs_cn hz (hfew hz)
    have hsl : (subsF f).length ≤ 200 := Nat.le_trans (subs_len8 hz).1 (by have := hfew hz; omega)
    rw [hz] at HV
    obtain ⟨i0, hi, hz0, hz1, hz2⟩ := info_parts Tryd.infoSl
    clear hR hm hfew hz
    generalize subsF f = ss at *
    have HSS := Lib.hid hss
    clear hss
    go_enter Tryd.func22, Tryd.ntmps22
    go_wp2_with fail
    refine (HV.out).mono ?_
    rintro e w1 ⟨rfl, hb⟩
    have HB1 := Lib.hid hb
    clear hb
    go_wp2_with fail
    refine (HS.out w1 ((HR.out.below HB1.out).more HB1.out.size)).mono ?_
    rintro e w2 ⟨vs, rfl, hLL, hb2⟩
    have HB2 := Lib.hid (HB1.out.trans (hb2.mono HB1.out.size))
    obtain ⟨As, cs, rfl, hit⟩ := hLL.slice
    have HIT := Lib.hid hit
    clear hb2 hLL hit
    go_wp2
    go_loopw [5, 7, 8, 17] (fun v _ _ i wr => ∃ k : Nat, k ≤ ss.length ∧ i = .int .i64 k ∧ Hid (LL wr w2.heap.size v (closN [] (ss.take k))) ∧ Hid (Below w2.heap.size w2 wr)) (fun _ _ _ i _ => ss.length - (intOf i).toNat)
    case atStart => exact ⟨0, Nat.zero_le _, rfl, Lib.hid (LL.nil _ _), Lib.hid (Below.refl _ _)⟩
    case round =>
      obtain ⟨k, hk, rfl, HL, HBR⟩ := hrel
      by_cases hlt : k < ss.length
      · obtain ⟨ad, Aj, cj, rfl, hcell, hown⟩ := HIT.out k hlt
        have hab : (ad.add k).block < w2.heap.size := by
          rcases Nat.lt_or_ge (ad.add k).block w2.heap.size with h' | h'
          · exact h'
          · simp [World.cell?, Array.getElem?_eq_none h'] at hcell
        have hcr := (HBR.out.cell (p := ad.add k) hab).trans hcell
        have hmem : ss.getD k [] ∈ ss := by
          rw [List.getD_eq_getElem?_getD, List.getElem?_eq_getElem hlt]
          exact List.getElem_mem _
        obtain ⟨g1, g2, g3⟩ := HSS.out _ hmem
        have HSUC := Lib.hid (clos_sucN ss hlt)
        have HCS := Lib.hid (closN_all (P := Cn) (ss.take k) [] (fun g hg => absurd hg (by simp)) (fun g hg => ⟨(HSS.out g (List.mem_of_mem_take hg)).1, (HSS.out g (List.mem_of_mem_take hg)).2.1⟩))
        have hcl2 : (closN [] (ss.take k)).length ≤ 400 := by
          have h1 := closN_len (ss.take k) []
          rw [List.length_take] at h1
          simp at h1
          omega
        have HOWN : Hid (wr.ownsRow 0 62 6 (.slice Aj (ss.getD k []).length cj) (ss.getD k []).length (nds (ss.getD k []))) := Lib.hid (own_keep1 hown (fun g hg => HBR.out.block g (hown.lt g hg).2))
        have hgl : (ss.getD k []).length ≤ maxLen := by have := g1.2.2; unfold maxLen; omega
        have HOPP := Lib.hid (fun (W : World) (h : W.ownsRow 0 62 6 (.slice Aj (ss.getD k []).length cj) (ss.getD k []).length (nds (ss.getD k []))) => rOpp_any (ss.getD k []) Aj (ss.getD k []).length cj W (Reads.of_own h) hgl)
        clear hcell hown hab hmem
        generalize hcn : closN [] (ss.take (k + 1)) = cn at *
        generalize mapF negT (ss.getD k []) = ng at *
        generalize ss.getD k [] = g at *
        have HCN := Lib.hid hcn
        clear hcn
        generalize closN [] (ss.take k) = cl at *
        have HNG : Hid ((ng.length == 0) = false) := Lib.hid (by simpa using g3)
        have hngl : ng.length ≤ maxLen := by have := g2.2.2; unfold maxLen; omega
        have HG1 := Lib.hid g1
        have HG2 := Lib.hid g2
        have hng0 : ((ng.length : Int) == 0) = false := by
          have : ng.length ≠ 0 := by simpa using g3
          simpa using this
        clear g1 g2 g3
        obtain ⟨Av, cv, rfl, _⟩ := HL.out.slice
        have CC := Lib.hid (rContains_any cl g (.slice Av cl.length cv) w2.heap.size Aj g.length cj wr HL.out HG1.out HCS.out (by omega) (Reads.of_own HOWN.out) hgl)
        by_cases h1 : g ∈ cl
        · rw [decide_eq_true h1] at CC
          have HEX : Hid (appN cl g = cl) := Lib.hid (if_pos h1)
          clear h1
          go_wp2_with fail
          refine (CC.out).mono ?_
          rintro e w3 ⟨rfl, hb3⟩
          have HL3 := Lib.hid (HL.out.below hb3)
          have HB3 := Lib.hid (HBR.out.trans (hb3.mono HBR.out.size))
          have HG3 := Lib.hid (own_keep1 HOWN.out (fun g hg => hb3.block g (HOWN.out.lt g hg).2))
          clear hb3 CC HOWN
          have CN := Lib.hid (HOPP.out w3 HG3.out)
          go_wp2_with fail
          refine (CN.out).mono ?_
          rintro e w5 ⟨An, cn2, rfl, hon, hb5⟩
          have HON := Lib.hid hon
          have HL5 := Lib.hid (HL3.out.below hb5)
          have HB5 := Lib.hid (HB3.out.trans (hb5.mono HB3.out.size))
          clear hon hb5 CN HOPP
          have CC2 := Lib.hid (rContains_any cl ng (.slice Av cl.length cv) w2.heap.size An ng.length cn2 w5 HL5.out HG2.out HCS.out (by have := hcl2; omega) (Reads.of_own HON.out) hngl)
          by_cases h2 : ng ∈ cl
          · rw [decide_eq_true h2] at CC2
            have HE2 : Hid (cn = cl) := Lib.hid (by rw [HSUC.out, HEX.out]; exact if_pos h2)
            clear h2
            go_wp2_with fail
            refine (CC2.out).mono ?_
            rintro e w6 ⟨rfl, hb6⟩
            have HL6 := Lib.hid (HL5.out.below hb6)
            have HB6 := Lib.hid (HB5.out.trans (hb6.mono HB5.out.size))
            clear hb6 CC2
            go_wp2
            go_roundw
            case rel => exact ⟨k + 1, by omega, by go_num, by rw [HCN.out, HE2.out]; exact HL6, HB6⟩
            case measure => first | (simp [intOf]; done) | (simp [intOf]; omega)
          · rw [decide_eq_false h2] at CC2
            have HE2 : Hid (cn = cl ++ [ng]) := Lib.hid (by rw [HSUC.out, HEX.out]; exact if_neg h2)
            clear h2
            go_wp2_with fail
            refine (CC2.out).mono ?_
            rintro e w6 ⟨rfl, hb6⟩
            have HL6 := Lib.hid (HL5.out.below hb6)
            have HB6 := Lib.hid (HB5.out.trans (hb6.mono HB5.out.size))
            have HON6 := Lib.hid (own_keep1 HON.out (fun g hg => hb6.block g (HON.out.lt g hg).2))
            have hlx := hcl2
            clear hb6 CC2
            obtain ⟨vs7, hown7, hitr7⟩ := (HL6.out).row
            have HOW7 := Lib.hid hown7
            have HITR7 := Lib.hid hitr7
            have hsz7 := HB6.out.size
            clear hitr7
            go_wp2_with (at_builtin; refine wpList_append_own _ rfl _ _ 29 rfl w2.heap.size 22 i0 (.slice none 0 0) 1 24 Tryd.underlying29 hi hz0 hz1 hz2 rfl (by decide) _ _ _ rfl (hown7.alloc _) ⟨w6.heap.size, 0, none⟩ 1 1 [.slice An ng.length cn2] rfl rfl ?k1 ?k2 ?k3 ?k4 ?k5 ?_)
            case k2 => intro u hu; simp at hu; subst hu; rfl
            case k3 => unfold maxLen; omega
            case k4 => omega
            case k5 => simp; omega
            case k1 =>
              intro j' u hj'
              match j', hj' with
              | 0, hj' => simp at hj'; subst hj'; simp [Addr.add]
            · intro v7 w7 hown' hgrow _
              have HL7 : Hid (LL w7 w2.heap.size v7 (cl ++ [ng])) := Lib.hid (LL.app HOW7.out HITR7.out HON6.out hown' hgrow)
              have HB7 : Hid (Below w2.heap.size w2 w7) := Lib.hid ((HB6.out.alloc (by omega) _).grown hgrow (by simp; omega) (fun g hg => (HOW7.out.lt g hg).1))
              clear hown' hgrow hown7
              go_wp2
              go_roundw
              case rel => exact ⟨k + 1, by omega, by go_num, by rw [HCN.out, HE2.out]; exact HL7, HB7⟩
              case measure => first | (simp [intOf]; done) | (simp [intOf]; omega)
        · rw [decide_eq_false h1] at CC
          have HEX : Hid (appN cl g = cl ++ [g]) := Lib.hid (if_neg h1)
          clear h1
          go_wp2_with fail
          refine (CC.out).mono ?_
          rintro e w3 ⟨rfl, hb3⟩
          have HL3 := Lib.hid (HL.out.below hb3)
          have HB3 := Lib.hid (HBR.out.trans (hb3.mono HBR.out.size))
          have HG3 := Lib.hid (own_keep1 HOWN.out (fun g hg => hb3.block g (HOWN.out.lt g hg).2))
          clear hb3 CC HOWN
          obtain ⟨vs4, hown4, hitr4⟩ := (HL3.out).row
          have HOW4 := Lib.hid hown4
          have HITR4 := Lib.hid hitr4
          have hsz4 := HB3.out.size
          clear hitr4
          go_wp2_with (at_builtin; refine wpList_append_own _ rfl _ _ 29 rfl w2.heap.size 22 i0 (.slice none 0 0) 1 24 Tryd.underlying29 hi hz0 hz1 hz2 rfl (by decide) _ _ _ rfl (hown4.alloc _) ⟨w3.heap.size, 0, none⟩ 1 1 [.slice Aj g.length cj] rfl rfl ?k1 ?k2 ?k3 ?k4 ?k5 ?_)
          case k2 => intro u hu; simp at hu; subst hu; rfl
          case k3 => unfold maxLen; omega
          case k4 => omega
          case k5 => simp; omega
          case k1 =>
            intro j' u hj'
            match j', hj' with
            | 0, hj' => simp at hj'; subst hj'; simp [Addr.add]
          · intro v4 w4 hown' hgrow _
            have HL4 : Hid (LL w4 w2.heap.size v4 (cl ++ [g])) := Lib.hid (LL.app HOW4.out HITR4.out HG3.out hown' hgrow)
            have HB4 : Hid (Below w2.heap.size w2 w4) := Lib.hid ((HB3.out.alloc (by omega) _).grown hgrow (by simp; omega) (fun g hg => (HOW4.out.lt g hg).1))
            have HG4 : Hid (w4.ownsRow 0 62 6 (.slice Aj g.length cj) g.length (nds g)) := Lib.hid (by
              refine own_keep1 HG3.out (fun x hx => ?_)
              have hlt := (HG3.out.lt x hx).2
              exact (hgrow.block x (Nat.lt_of_lt_of_le hlt (by simp)) (fun e => own_apart HG3.out HOW4.out (by decide) hx e.symm)).trans (Below.heap_alloc w3 _ x hlt))
            clear hown' hgrow hown4
            obtain ⟨cl4, hcl4⟩ : ∃ q, q = cl ++ [g] := ⟨_, rfl⟩
            have hlen4 : cl4.length ≤ 401 := by rw [hcl4, List.length_append]; simp; omega
            have HCS4 : Hid (∀ h ∈ cl4, Cn h) := Lib.hid (fun h hh => by
              rw [hcl4] at hh
              rcases List.mem_append.1 hh with hh | hh
              · exact HCS.out h hh
              · rw [List.mem_singleton.1 hh]; exact HG1.out)
            rw [← hcl4] at HL4 HEX
            clear hcl4
            obtain ⟨Av4, cv4, rfl, _⟩ := HL4.out.slice
            have CN := Lib.hid (HOPP.out w4 HG4.out)
            go_wp2_with fail
            refine (CN.out).mono ?_
            rintro e w5 ⟨An, cn2, rfl, hon, hb5⟩
            have HON := Lib.hid hon
            have HL5 := Lib.hid (HL4.out.below hb5)
            have HB5 := Lib.hid (HB4.out.trans (hb5.mono HB4.out.size))
            clear hon hb5 CN HOPP
            have CC2 := Lib.hid (rContains_any cl4 ng (.slice Av4 cl4.length cv4) w2.heap.size An ng.length cn2 w5 HL5.out HG2.out HCS4.out (by have := hlen4; omega) (Reads.of_own HON.out) hngl)
            by_cases h2 : ng ∈ cl4
            · rw [decide_eq_true h2] at CC2
              have HE2 : Hid (cn = cl4) := Lib.hid (by rw [HSUC.out, HEX.out]; exact if_pos h2)
              clear h2
              go_wp2_with fail
              refine (CC2.out).mono ?_
              rintro e w6 ⟨rfl, hb6⟩
              have HL6 := Lib.hid (HL5.out.below hb6)
              have HB6 := Lib.hid (HB5.out.trans (hb6.mono HB5.out.size))
              clear hb6 CC2
              go_wp2
              go_roundw
              case rel => exact ⟨k + 1, by omega, by go_num, by rw [HCN.out, HE2.out]; exact HL6, HB6⟩
              case measure => first | (simp [intOf]; done) | (simp [intOf]; omega)
            · rw [decide_eq_false h2] at CC2
              have HE2 : Hid (cn = cl4 ++ [ng]) := Lib.hid (by rw [HSUC.out, HEX.out]; exact if_neg h2)
              clear h2
              go_wp2_with fail
              refine (CC2.out).mono ?_
              rintro e w6 ⟨rfl, hb6⟩
              have HL6 := Lib.hid (HL5.out.below hb6)
              have HB6 := Lib.hid (HB5.out.trans (hb6.mono HB5.out.size))
              have HON6 := Lib.hid (own_keep1 HON.out (fun g hg => hb6.block g (HON.out.lt g hg).2))
              have hlx := hlen4
              clear hb6 CC2
              obtain ⟨vs7, hown7, hitr7⟩ := (HL6.out).row
              have HOW7 := Lib.hid hown7
              have HITR7 := Lib.hid hitr7
              have hsz7 := HB6.out.size
              clear hitr7
              go_wp2_with (at_builtin; refine wpList_append_own _ rfl _ _ 29 rfl w2.heap.size 22 i0 (.slice none 0 0) 1 24 Tryd.underlying29 hi hz0 hz1 hz2 rfl (by decide) _ _ _ rfl (hown7.alloc _) ⟨w6.heap.size, 0, none⟩ 1 1 [.slice An ng.length cn2] rfl rfl ?k1 ?k2 ?k3 ?k4 ?k5 ?_)
              case k2 => intro u hu; simp at hu; subst hu; rfl
              case k3 => unfold maxLen; omega
              case k4 => omega
              case k5 => simp; omega
              case k1 =>
                intro j' u hj'
                match j', hj' with
                | 0, hj' => simp at hj'; subst hj'; simp [Addr.add]
              · intro v7 w7 hown' hgrow _
                have HL7 : Hid (LL w7 w2.heap.size v7 (cl4 ++ [ng])) := Lib.hid (LL.app HOW7.out HITR7.out HON6.out hown' hgrow)
                have HB7 : Hid (Below w2.heap.size w2 w7) := Lib.hid ((HB6.out.alloc (by omega) _).grown hgrow (by simp; omega) (fun g hg => (HOW7.out.lt g hg).1))
                clear hown' hgrow hown7
                go_wp2
                go_roundw
                case rel => exact ⟨k + 1, by omega, by go_num, by rw [HCN.out, HE2.out]; exact HL7, HB7⟩
                case measure => first | (simp [intOf]; done) | (simp [intOf]; omega)
      · have hkl : k = ss.length := by omega
        subst hkl
        rw [List.take_length] at HL
        go_wp2
        go_ret2
        exact ⟨_, rfl, HL.out.base HB2.out.size, HB2.out.trans (HBR.out.mono HB2.out.size)⟩
  · rw [if_neg hz]
    clear hR hm hfew
    generalize fErr f = ef at *
    go_enter Tryd.func22, Tryd.ntmps22
    go_wp2_with fail
    refine (HV.out).mono ?_
    rintro e w1 ⟨rfl, hb⟩
    have HB1 := Lib.hid hb
    clear hb
    go_wp2
    go_ret2
    exact ⟨_, rfl, LL.nil _ _, HB1.out⟩
end Go.Proofs.YtkkkomkljpolbaaDoor
