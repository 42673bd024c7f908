/- ModelNames (P13.5): renaming with a list and back restores the model, each world keeps its facts, and successors are renamed. No condition. -/
import Derived.Test.YtofclgapgjcflaaDoorEg
import Derived.Test.YtofclgapgjcflaaDoorEp
import Derived.Test.YtofclgapgjcflaaDoorEo
namespace Go.Proofs.YtofclgapgjcflaaDoor.modelNames
open Go.ChangeShapes Go.WideShapes Go.ChangeAt Go.RowKit Go.Proofs.YtofclgapgjcflaaDoor Go.Proofs.YtofclgapgjcflaaDoor.mdl Go.Proofs.Ws
open Go.ChangeMaps (open_string shut_string)
theorem below_set (W : World) (g x : Nat) (v : Value) (hg : g ≤ W.heap.size) : Below g W (W.setCell ⟨g, x, none⟩ v) := (OnlyB.set g x W v).below (Nat.le_refl _) hg
theorem frK_end {n : Nat} {tp : List Int} (h : PermL n tp) : frK n tp n = invL n tp := PreP.fin ⟨fun i hi => h.rng i hi, fun i j hi hj e => h.inj i j hi hj e⟩ h.len
set_option maxRecDepth 100000
set_option maxHeartbeats 16000000 in
theorem walk (m : Mo) (v : Value) (tp : List Int) (A : Option Addr) (q c : Nat) (w : World) (hM : MoR w w.heap.size v m) (hI : Reads w w.heap.size 1 A q (ints tp)) (hq : q ≤ maxLen) (hT : Tab w) :
    Calls Tryd.prog 9 #[v, .slice A q c] w fun e w' => e = .returned (.bool true) ∧ Below w.heap.size w w' := by
  obtain ⟨A1, c1, A2, c2, rfl, hv, hr⟩ := hM.ex
  have HB := Lib.hid (MBox.made w m.n (.slice A1 m.val.length c1) (.slice A2 m.rel.length c2))
  have HBe : Hid (Below w.heap.size w (w.alloc (.cells #[.int .i64 m.n, .slice A1 m.val.length c1, .slice A2 m.rel.length c2] 25))) := Lib.hid ((Below.refl _ w).alloc (Nat.le_refl _) _)
  have HMW := Lib.hid (fun W (hb : Below w.heap.size w W) => hM.below hb hb.size)
  have HRU : Hid (UsR w w.heap.size A2 m.rel.length m.rel) := Lib.hid hr
  have HTW := Lib.hid (fun W (hb : Below w.heap.size w W) => hT.below hb)
  have HAW : Hid (∀ W, Below w.heap.size w W → Calls Tryd.prog 11 #[] W fun e w' => e = .returned (.bool true) ∧ Below W.heap.size W w') := Lib.hid (fun W hb => awake13_any W (hT.below hb))
  have HFW : Hid (∀ W, Below w.heap.size w W → Calls Tryd.prog 12 #[.agg #[.int .i64 m.n, .slice A1 m.val.length c1, .slice A2 m.rel.length c2]] W fun e w' => e = .returned (.bool (fewM m)) ∧ Below W.heap.size W w') := Lib.hid (fun W hb => lFew_any m _ W (HMW.out W hb))
  have HCW : Hid (∀ W, Below w.heap.size w W → Calls Tryd.prog 14 #[.agg #[.int .i64 m.n, .slice A1 m.val.length c1, .slice A2 m.rel.length c2]] W fun e w' => e = .returned (.int .i64 (chkM m)) ∧ Below W.heap.size W w') := Lib.hid (fun W hb => rCheck_any m _ W (HMW.out W hb))
  clear hM hv hr
  by_cases hf : fewM m = true
  case neg =>
    have hf2 : fewM m = false := by simpa using hf
    rw [hf2] at HFW
    clear hf hf2
    go_enter Tryd.func9, Tryd.ntmps9
    go_wp2_with fail
    refine (HAW.out _ HBe.out).mono ?_
    rintro e w2 ⟨rfl, hb2⟩
    have HB2 := Lib.hid (HBe.out.trans (hb2.mono HBe.out.size))
    have HX := Lib.hid (HB.out.below hb2 HB.out.lt)
    clear hb2
    have b0 := HX.out.c0
    have b1 := HX.out.c1
    have b2 := HX.out.c2
    go_wp2_with fail
    refine (HFW.out _ HB2.out).mono ?_
    rintro e w3 ⟨rfl, hb3⟩
    have HB3 := Lib.hid (HB2.out.trans (hb3.mono HB2.out.size))
    have HX3 := Lib.hid (HX.out.below hb3 HX.out.lt)
    clear hb3 b0 b1 b2
    go_wp2_with fail
    refine (HAW.out _ HB3.out).mono ?_
    rintro e w9 ⟨rfl, hb9⟩
    have HB9 := Lib.hid (HB3.out.trans (hb9.mono HB3.out.size))
    clear hb9
    go_wp2
    go_ret
    exact ⟨rfl, HB9.out⟩
  case pos =>
    rw [hf] at HFW
    clear hf
    by_cases hz : chkM m = 0
    case neg =>
      have hne : (chkM m != 0) = true := by rw [bne_iff_ne]; exact hz
      generalize chkM m = cm at *
      clear hz
      go_enter Tryd.func9, Tryd.ntmps9
      go_wp2_with fail
      refine (HAW.out _ HBe.out).mono ?_
      rintro e w2 ⟨rfl, hb2⟩
      have HB2 := Lib.hid (HBe.out.trans (hb2.mono HBe.out.size))
      have HX := Lib.hid (HB.out.below hb2 HB.out.lt)
      clear hb2
      have b0 := HX.out.c0
      have b1 := HX.out.c1
      have b2 := HX.out.c2
      go_wp2_with fail
      refine (HFW.out _ HB2.out).mono ?_
      rintro e w3 ⟨rfl, hb3⟩
      have HB3 := Lib.hid (HB2.out.trans (hb3.mono HB2.out.size))
      have HX3 := Lib.hid (HX.out.below hb3 HX.out.lt)
      clear hb3 b0 b1 b2
      have b0 := HX3.out.c0
      have b1 := HX3.out.c1
      have b2 := HX3.out.c2
      go_wp2_with fail
      refine (HCW.out _ HB3.out).mono ?_
      rintro e w4 ⟨rfl, hb4⟩
      have HB4 := Lib.hid (HB3.out.trans (hb4.mono HB3.out.size))
      have HX4 := Lib.hid (HX3.out.below hb4 HX3.out.lt)
      clear hb4 b0 b1 b2
      go_wp2_with fail
      refine (HAW.out _ HB4.out).mono ?_
      rintro e w9 ⟨rfl, hb9⟩
      have HB9 := Lib.hid (HB4.out.trans (hb9.mono HB4.out.size))
      clear hb9
      go_wp2
      go_ret
      exact ⟨rfl, HB9.out⟩
    case pos =>
      rw [hz] at HCW
      have ok := chkM_ok hz
      have HIW := Lib.hid (fun W (hb : Below w.heap.size w W) => (hI.below hb).more hb.size)
      have HII := Lib.hid hI
      by_cases hp : PermL m.n.toNat tp
      case neg =>
        have HRW : Hid (∀ W, Below w.heap.size w W → Calls Tryd.prog 25 #[.agg #[.int .i64 m.n, .slice A1 m.val.length c1, .slice A2 m.rel.length c2], .slice A q c] W fun e w' => ∃ v', e = .returned (.tuple #[v', .int .i64 1]) ∧ MoF w' W.heap.size v' mo0 ∧ Below W.heap.size W w') := Lib.hid (fun W hb => by
          have h := pRename_any m _ tp A q c W (HMW.out W hb) (HIW.out W hb) hq
          rw [(renE_no hz hp).1, (renE_no hz hp).2] at h
          exact h)
        clear hp hz HMW ok hI
        go_enter Tryd.func9, Tryd.ntmps9
        go_wp2_with fail
        refine (HAW.out _ HBe.out).mono ?_
        rintro e w2 ⟨rfl, hb2⟩
        have HB2 := Lib.hid (HBe.out.trans (hb2.mono HBe.out.size))
        have HX := Lib.hid (HB.out.below hb2 HB.out.lt)
        clear hb2
        have b0 := HX.out.c0
        have b1 := HX.out.c1
        have b2 := HX.out.c2
        go_wp2_with fail
        refine (HFW.out _ HB2.out).mono ?_
        rintro e w3 ⟨rfl, hb3⟩
        have HB3 := Lib.hid (HB2.out.trans (hb3.mono HB2.out.size))
        have HX3 := Lib.hid (HX.out.below hb3 HX.out.lt)
        clear hb3 b0 b1 b2
        have b0 := HX3.out.c0
        have b1 := HX3.out.c1
        have b2 := HX3.out.c2
        go_wp2_with fail
        refine (HCW.out _ HB3.out).mono ?_
        rintro e w4 ⟨rfl, hb4⟩
        have HB4 := Lib.hid (HB3.out.trans (hb4.mono HB3.out.size))
        have HX4 := Lib.hid (HX3.out.below hb4 HX3.out.lt)
        clear hb4 b0 b1 b2
        have HB := HB4
        have HX := HX4
        clear HB2 HB3 HB4 HX3 HX4
        have HX_0 := HX.out.c0
        have HX_1 := HX.out.c1
        have HX_2 := HX.out.c2
        have HX_l := HX.out.lt
        go_wp2_with fail
        clear HX_0 HX_1 HX_2 HX_l
        refine (HRW.out _ HB.out).mono ?_
        rintro e w5 ⟨va, rfl, hm, hb⟩
        replace HB := Lib.hid (upB HB.out (Nat.le_refl _) hb)
        replace HX := Lib.hid (upX HX.out hb)
        clear hb
        have hm := hm.self
        obtain ⟨U1, e1, U2, e2, rfl⟩ := hm.shape (n := 0) (k := 0) (q := 0) rfl rfl rfl
        clear hm
        go_wp2
        go_ret
        exact ⟨rfl, HB.out.alloc HB.out.size _⟩
      case pos =>
        have HNO := Lib.hid (names_ok ok hp)
        obtain ⟨nm, hnm⟩ : ∃ nm, nm = renM m tp := ⟨_, rfl⟩
        have hren := renE_yes hz hp
        rw [← hren.2, ← hnm] at HNO
        have hlen := hp.len
        have hil := hI.int_len
        have hle := ok.le
        have hmn : m.n = (m.n.toNat : Int) := ok.num
        have HOK := Lib.hid ok
        have HP := Lib.hid hp
        have HRW : Hid (∀ W, Below w.heap.size w W → Calls Tryd.prog 25 #[.agg #[.int .i64 m.n, .slice A1 m.val.length c1, .slice A2 m.rel.length c2], .slice A q c] W fun e w' => ∃ v', e = .returned (.tuple #[v', .int .i64 0]) ∧ MoF w' W.heap.size v' nm ∧ Below W.heap.size W w') := Lib.hid (fun W hb => by
          have h := pRename_any m _ tp A q c W (HMW.out W hb) (HIW.out W hb) hq
          rw [hren.1, ← hnm] at h
          exact h)
        clear hp hz ok hI hren hnm
        generalize m.n.toNat = n at *
        obtain rfl : n = q := by omega
        clear hil hlen hq
        have HMN : Hid (∀ W, Below w.heap.size w W → MoR W W.heap.size (.agg #[.int .i64 (n : Int), .slice A1 m.val.length c1, .slice A2 m.rel.length c2]) m) := Lib.hid (fun W hb => by have h := HMW.out W hb; rw [hmn] at h; exact h)
        rw [hmn] at HRW
        have HMV := Lib.hid hmn
        have hmk : ∀ W : World, _ := fun W => makeN W n (by omega)
        clear hmn HMW
        go_enter Tryd.func9, Tryd.ntmps9
        go_wp2_with fail
        refine (HAW.out _ HBe.out).mono ?_
        rintro e w2 ⟨rfl, hb2⟩
        have HB2 := Lib.hid (HBe.out.trans (hb2.mono HBe.out.size))
        have HX := Lib.hid (HB.out.below hb2 HB.out.lt)
        clear hb2
        have b0 := HX.out.c0
        have b1 := HX.out.c1
        have b2 := HX.out.c2
        go_wp2_with fail
        refine (HFW.out _ HB2.out).mono ?_
        rintro e w3 ⟨rfl, hb3⟩
        have HB3 := Lib.hid (HB2.out.trans (hb3.mono HB2.out.size))
        have HX3 := Lib.hid (HX.out.below hb3 HX.out.lt)
        clear hb3 b0 b1 b2
        have b0 := HX3.out.c0
        have b1 := HX3.out.c1
        have b2 := HX3.out.c2
        go_wp2_with fail
        refine (HCW.out _ HB3.out).mono ?_
        rintro e w4 ⟨rfl, hb4⟩
        have HB4 := Lib.hid (HB3.out.trans (hb4.mono HB3.out.size))
        have HX4 := Lib.hid (HX3.out.below hb4 HX3.out.lt)
        clear hb4 b0 b1 b2
        have HB := HB4
        have HX := HX4
        rw [HMV.out] at HX
        clear HB2 HB3 HB4 HX3 HX4
        have HX_0 := HX.out.c0
        have HX_1 := HX.out.c1
        have HX_2 := HX.out.c2
        have HX_l := HX.out.lt
        go_wp2_with fail
        clear HX_0 HX_1 HX_2 HX_l
        refine (HRW.out _ HB.out).mono ?_
        rintro e w5 ⟨va, rfl, hm, hb⟩
        replace HB := Lib.hid (upB HB.out (Nat.le_refl _) hb)
        replace HX := Lib.hid (upX HX.out hb)
        clear hb
        have hm := hm.self
        obtain ⟨U1, e1, U2, e2, rfl⟩ := hm.shape (n := (n : Int)) (k := m.val.length) (q := m.rel.length) HNO.out.num HNO.out.facts HNO.out.agents
        have HMA := Lib.hid hm
        clear hm
        have HX_0 := HX.out.c0
        have HX_1 := HX.out.c1
        have HX_2 := HX.out.c2
        have HX_l := HX.out.lt
        go_wp2_with fail
        clear HX_0 HX_1 HX_2 HX_l
        have HSZ := Lib.hid (show (w5.alloc (.cells #[.int .i64 (n : Int), .slice U1 m.val.length e1, .slice U2 m.rel.length e2] 25)).heap.size = w5.heap.size + 1 from by simp)
        have hb : Below w5.heap.size w5 (w5.alloc (.cells #[.int .i64 ((n : Int)), .slice U1 m.val.length e1, .slice U2 m.rel.length e2] 25)) := (Below.refl _ _).alloc (Nat.le_refl _) _
        have HXa := Lib.hid (MBox.made w5 ((n : Int)) (.slice U1 m.val.length e1) (.slice U2 m.rel.length e2))
        generalize hW : w5.alloc (.cells #[.int .i64 ((n : Int)), .slice U1 m.val.length e1, .slice U2 m.rel.length e2] 25) = w6 at *
        clear hW
        replace HB := Lib.hid (upB HB.out (Nat.le_refl _) hb)
        replace HX := Lib.hid (upX HX.out hb)
        replace HMA := Lib.hid (upM HMA.out hb)
        clear hb
        generalize w5.heap.size = bHXa at *
        have HN0 : Hid (HoldsN (w6.alloc (.cells (iv (List.replicate n 0)).toArray 3)) w6.heap.size (frK n tp 0)) := Lib.hid (heap_alloc_new w6 _)
        have HB0 : Hid (Below w6.heap.size w6 (w6.alloc (.cells (iv (List.replicate n 0)).toArray 3))) := Lib.hid ((Below.refl _ _).alloc (Nat.le_refl _) _)
        generalize w6.alloc (.cells (iv (List.replicate n 0)).toArray 3) = w9 at *
        clear hmk
        generalize hgg : bHXa + 1 = gg at *
        clear hgg
        obtain rfl : gg = w6.heap.size := HSZ.out.symm
        clear HSZ
        skip
        go_loopw [8, 9, 69] (fun _ _ i wr => ∃ j : Nat, j ≤ n ∧ i = .int .i64 j ∧ Hid (HoldsN wr w6.heap.size (frK n tp j) ∧ Below w6.heap.size w6 wr)) (fun _ _ i _ => n - (intOf i).toNat)
        case atStart => exact ⟨0, Nat.zero_le _, rfl, Lib.hid ⟨HN0.out, HB0.out⟩⟩
        case round =>
          obtain ⟨j, hj, rfl, HO⟩ := hrel
          by_cases hlt : j < n
          · have hxr := HP.out.rng j hlt
            have HF1 := HNO.out.fact j hlt
            obtain ⟨ad, rfl, hba, hc⟩ := (HII.out.below (HB.out.trans (HO.out.2.mono HB.out.size))).int_k hlt
            obtain ⟨x, hx⟩ : ∃ x : Nat, tp.getD j 0 = (x : Int) := ⟨(tp.getD j 0).toNat, by omega⟩
            have hxn : x < n := by omega
            have KF1 : Hid (∀ W, Below w6.heap.size w6 W → Calls Tryd.prog 15 #[.agg #[.int .i64 (n : Int), .slice U1 m.val.length e1, .slice U2 m.rel.length e2], .int .i64 (x : Int)] W fun e w' => e = .returned (.int .i64 (factV m (j : Int))) ∧ Below W.heap.size W w') := Lib.hid (fun W h => by rw [← HF1, hx]; exact pFacts_any nm _ (x : Int) W (HMA.out.below h h.size))
            have KF2 : Hid (∀ W, Below w6.heap.size w6 W → Calls Tryd.prog 15 #[.agg #[.int .i64 (n : Int), .slice A1 m.val.length c1, .slice A2 m.rel.length c2], .int .i64 (j : Int)] W fun e w' => e = .returned (.int .i64 (factV m (j : Int))) ∧ Below W.heap.size W w') := Lib.hid (fun W h => pFacts_any m _ (j : Int) W (HMN.out W (HB.out.trans (h.mono HB.out.size))))
            have HFR : Hid (frK n tp (j + 1) = (frK n tp j).set x j) := Lib.hid (by show (frK n tp j).set (tp.getD j 0).toNat j = _; rw [hx]; rfl)
            have HFL : Hid (x < (frK n tp j).length) := Lib.hid (by rw [frK_len]; exact hxn)
            rw [hx] at hc
            clear hxr HF1 hx
            generalize factV m (j : Int) = fv at *
            generalize hfr1 : frK n tp (j + 1) = fr1 at *
            have HFR1 := Lib.hid hfr1
            clear hfr1
            generalize frK n tp j = fr at *
            have dx0 : decide ((x : Int) < 0) = false := decide_eq_false (by omega)
            have dxp : decide (n ≤ x) = false := decide_eq_false (by omega)
            have HCX : Hid (∀ W, Below w6.heap.size w6 W → W.cell? ⟨w.heap.size, 0, none⟩ = some (.int .i64 (n : Int)) ∧ W.cell? ⟨w.heap.size, 1, none⟩ = some (.slice A1 m.val.length c1) ∧ W.cell? ⟨w.heap.size, 2, none⟩ = some (.slice A2 m.rel.length c2)) := Lib.hid (fun W h => ⟨(HX.out.below h HX.out.lt).c0, (HX.out.below h HX.out.lt).c1, (HX.out.below h HX.out.lt).c2⟩)
            have HCB : Hid (∀ W, Below w6.heap.size w6 W → W.cell? ⟨bHXa, 0, none⟩ = some (.int .i64 (n : Int)) ∧ W.cell? ⟨bHXa, 1, none⟩ = some (.slice U1 m.val.length e1) ∧ W.cell? ⟨bHXa, 2, none⟩ = some (.slice U2 m.rel.length e2)) := Lib.hid (fun W h => ⟨(HXa.out.below h HXa.out.lt).c0, (HXa.out.below h HXa.out.lt).c1, (HXa.out.below h HXa.out.lt).c2⟩)
            go_wp2
            clear hc
            refine wp_region_const [.int .i64 (x : Int), .bool false, .bool false, .int .i64 (x : Int), .slice (some ⟨w6.heap.size, 0, none⟩) n n, .int .i64 (n : Int), .bool false, .bool false, .bool false, .agg #[.int .i64 (n : Int), .slice U1 m.val.length e1, .slice U2 m.rel.length e2], .int .i64 (x : Int), .int .i64 fv, .agg #[.int .i64 (n : Int), .slice A1 m.val.length c1, .slice A2 m.rel.length c2], .int .i64 (j : Int), .int .i64 fv, .bool false, .bool false] 74 (fun W => HoldsN W w6.heap.size fr ∧ Below w6.heap.size w6 W) (fun W W' => Below W.heap.size W W') 17 168 rfl rfl rfl (by omega) (by kernel_rfl) (by kernel_rfl) (by kernel_rfl) (fun W => Below.refl _ W) (fun W1 W2 W3 h1 h2 => h1.trans (h2.mono h1.size)) (fun W W' h h2 => ⟨(h2.block _ h.1.lt).trans h.1, h.2.trans (h2.mono h.2.size)⟩) ⟨HO.out.1, HO.out.2.drew⟩ ?hop ?fin
            case hop =>
              refine (lt_more (lt_more (lt_more (lt_more (lt_more (lt_more (lt_more (lt_more (lt_more (lt_more (lt_more (lt_more (lt_more (lt_more (lt_more (lt_more (lt_more (lt_none _) ?s0) ?s1) ?s2) ?s3) ?s4) ?s5) ?s6) ?s7) ?s8) ?s9) ?s10) ?s11) ?s12) ?s13) ?s14) ?s15) ?s16)
              case s0 =>
                intro o ho a W hS hsz hdf hfr hdep K hK
                obtain ⟨tm, df⟩ := a
                have hdf : df = [] := hdf
                subst hdf
                have ho := Option.some.inj ho
                subst ho
                have hsz : tm.size = 168 := hsz
                have t9 : tm.getD 9 undef = .int .i64 (x : Int) := hfr 9 (by intro j hj; show 74 + j ≠ 9; omega)
                clear hdep hfr
                go_simp
                exact hK _ W (Below.refl _ W) (fun W9 hb => rfl)
              case s1 =>
                intro o ho a W hS hsz hdf hfr hdep K hK
                obtain ⟨tm, df⟩ := a
                have hdf : df = [] := hdf
                subst hdf
                have ho := Option.some.inj ho
                subst ho
                have hsz : tm.size = 168 := hsz
                have t74 : tm.getD 74 undef = .int .i64 (x : Int) := hdep ⟨0, .data⟩ (by simp) (by rfl) (by decide) W (Below.refl _ W)
                clear hdep hfr
                go_simp
                exact hK _ W (Below.refl _ W) (fun W9 hb => rfl)
              case s2 =>
                intro o ho a W hS hsz hdf hfr hdep K hK
                obtain ⟨tm, df⟩ := a
                have hdf : df = [] := hdf
                subst hdf
                have ho := Option.some.inj ho
                subst ho
                have hsz : tm.size = 168 := hsz
                have t75 : tm.getD 75 undef = .bool false := hdep ⟨1, .data⟩ (by simp) (by rfl) (by decide) W (Below.refl _ W)
                clear hdep hfr
                go_simp
                exact hK _ W (Below.refl _ W) (fun W9 hb => rfl)
              case s3 =>
                intro o ho a W hS hsz hdf hfr hdep K hK
                obtain ⟨tm, df⟩ := a
                have hdf : df = [] := hdf
                subst hdf
                have ho := Option.some.inj ho
                subst ho
                have hsz : tm.size = 168 := hsz
                have t9 : tm.getD 9 undef = .int .i64 (x : Int) := hfr 9 (by intro j hj; show 74 + j ≠ 9; omega)
                have t76 : tm.getD 76 undef = .bool false := hdep ⟨2, .guard⟩ (by simp) (by rfl) (by decide) W (Below.refl _ W)
                have u76 : tm[76]'(by omega) = .bool false := getq t76 (by omega)
                clear hdep hfr
                go_simp
                exact hK _ W (Below.refl _ W) (fun W9 hb => rfl)
              case s4 =>
                intro o ho a W hS hsz hdf hfr hdep K hK
                obtain ⟨tm, df⟩ := a
                have hdf : df = [] := hdf
                subst hdf
                have ho := Option.some.inj ho
                subst ho
                have hsz : tm.size = 168 := hsz
                have t7 : tm.getD 7 undef = .slice (some ⟨w6.heap.size, 0, none⟩) n n := hfr 7 (by intro j hj; show 74 + j ≠ 7; omega)
                have t76 : tm.getD 76 undef = .bool false := hdep ⟨2, .guard⟩ (by simp) (by rfl) (by decide) W (Below.refl _ W)
                have u76 : tm[76]'(by omega) = .bool false := getq t76 (by omega)
                clear hdep hfr
                go_simp
                exact hK _ W (Below.refl _ W) (fun W9 hb => rfl)
              case s5 =>
                intro o ho a W hS hsz hdf hfr hdep K hK
                obtain ⟨tm, df⟩ := a
                have hdf : df = [] := hdf
                subst hdf
                have ho := Option.some.inj ho
                subst ho
                have hsz : tm.size = 168 := hsz
                have t78 : tm.getD 78 undef = .slice (some ⟨w6.heap.size, 0, none⟩) n n := hdep ⟨4, .data⟩ (by simp) (by rfl) (by decide) W (Below.refl _ W)
                have t76 : tm.getD 76 undef = .bool false := hdep ⟨2, .guard⟩ (by simp) (by rfl) (by decide) W (Below.refl _ W)
                have u76 : tm[76]'(by omega) = .bool false := getq t76 (by omega)
                clear hdep hfr
                go_simp
                exact hK _ W (Below.refl _ W) (fun W9 hb => rfl)
              case s6 =>
                intro o ho a W hS hsz hdf hfr hdep K hK
                obtain ⟨tm, df⟩ := a
                have hdf : df = [] := hdf
                subst hdf
                have ho := Option.some.inj ho
                subst ho
                have hsz : tm.size = 168 := hsz
                have t77 : tm.getD 77 undef = .int .i64 (x : Int) := hdep ⟨3, .data⟩ (by simp) (by rfl) (by decide) W (Below.refl _ W)
                have t79 : tm.getD 79 undef = .int .i64 (n : Int) := hdep ⟨5, .data⟩ (by simp) (by rfl) (by decide) W (Below.refl _ W)
                have t76 : tm.getD 76 undef = .bool false := hdep ⟨2, .guard⟩ (by simp) (by rfl) (by decide) W (Below.refl _ W)
                have u76 : tm[76]'(by omega) = .bool false := getq t76 (by omega)
                clear hdep hfr
                go_simp
                exact hK _ W (Below.refl _ W) (fun W9 hb => rfl)
              case s7 =>
                intro o ho a W hS hsz hdf hfr hdep K hK
                obtain ⟨tm, df⟩ := a
                have hdf : df = [] := hdf
                subst hdf
                have ho := Option.some.inj ho
                subst ho
                have hsz : tm.size = 168 := hsz
                have t76 : tm.getD 76 undef = .bool false := hdep ⟨2, .data⟩ (by simp) (by rfl) (by decide) W (Below.refl _ W)
                have t80 : tm.getD 80 undef = .bool false := hdep ⟨6, .data⟩ (by simp) (by rfl) (by decide) W (Below.refl _ W)
                clear hdep hfr
                go_simp
                exact hK _ W (Below.refl _ W) (fun W9 hb => rfl)
              case s8 =>
                intro o ho a W hS hsz hdf hfr hdep K hK
                obtain ⟨tm, df⟩ := a
                have hdf : df = [] := hdf
                subst hdf
                have ho := Option.some.inj ho
                subst ho
                have hsz : tm.size = 168 := hsz
                have t81 : tm.getD 81 undef = .bool false := hdep ⟨7, .data⟩ (by simp) (by rfl) (by decide) W (Below.refl _ W)
                clear hdep hfr
                go_simp
                exact hK _ W (Below.refl _ W) (fun W9 hb => rfl)
              case s9 =>
                intro o ho a W hS hsz hdf hfr hdep K hK
                obtain ⟨tm, df⟩ := a
                have hdf : df = [] := hdf
                subst hdf
                have ho := Option.some.inj ho
                subst ho
                have hsz : tm.size = 168 := hsz
                have t5 : tm.getD 5 undef = .pointer (some ⟨bHXa, 0, none⟩) := hfr 5 (by intro j hj; show 74 + j ≠ 5; omega)
                have t82 : tm.getD 82 undef = .bool false := hdep ⟨8, .guard⟩ (by simp) (by rfl) (by decide) W (Below.refl _ W)
                have u82 : tm[82]'(by omega) = .bool false := getq t82 (by omega)
                obtain ⟨cz0, cz1, cz2⟩ := HCB.out W hS.2
                clear hdep hfr
                go_simp
                exact hK _ W (Below.refl _ W) (fun W9 hb => rfl)
              case s10 =>
                intro o ho a W hS hsz hdf hfr hdep K hK
                obtain ⟨tm, df⟩ := a
                have hdf : df = [] := hdf
                subst hdf
                have ho := Option.some.inj ho
                subst ho
                have hsz : tm.size = 168 := hsz
                have t9 : tm.getD 9 undef = .int .i64 (x : Int) := hfr 9 (by intro j hj; show 74 + j ≠ 9; omega)
                have t82 : tm.getD 82 undef = .bool false := hdep ⟨8, .guard⟩ (by simp) (by rfl) (by decide) W (Below.refl _ W)
                have u82 : tm[82]'(by omega) = .bool false := getq t82 (by omega)
                clear hdep hfr
                go_simp
                exact hK _ W (Below.refl _ W) (fun W9 hb => rfl)
              case s11 =>
                intro o ho a W hS hsz hdf hfr hdep K hK
                obtain ⟨tm, df⟩ := a
                have hdf : df = [] := hdf
                subst hdf
                have ho := Option.some.inj ho
                subst ho
                have hsz : tm.size = 168 := hsz
                have t83 : tm.getD 83 undef = .agg #[.int .i64 (n : Int), .slice U1 m.val.length e1, .slice U2 m.rel.length e2] := hdep ⟨9, .data⟩ (by simp) (by rfl) (by decide) W (Below.refl _ W)
                have t84 : tm.getD 84 undef = .int .i64 (x : Int) := hdep ⟨10, .data⟩ (by simp) (by rfl) (by decide) W (Below.refl _ W)
                have t82 : tm.getD 82 undef = .bool false := hdep ⟨8, .guard⟩ (by simp) (by rfl) (by decide) W (Below.refl _ W)
                have u82 : tm[82]'(by omega) = .bool false := getq t82 (by omega)
                clear hdep hfr
                go_simp
                refine (KF1.out W hS.2).mono ?_
                rintro e W9 ⟨rfl, hb⟩
                exact hK _ W9 hb (fun W8 hc => rfl)
              case s12 =>
                intro o ho a W hS hsz hdf hfr hdep K hK
                obtain ⟨tm, df⟩ := a
                have hdf : df = [] := hdf
                subst hdf
                have ho := Option.some.inj ho
                subst ho
                have hsz : tm.size = 168 := hsz
                have t2 : tm.getD 2 undef = .pointer (some ⟨w.heap.size, 0, none⟩) := hfr 2 (by intro j hj; show 74 + j ≠ 2; omega)
                have t82 : tm.getD 82 undef = .bool false := hdep ⟨8, .guard⟩ (by simp) (by rfl) (by decide) W (Below.refl _ W)
                have u82 : tm[82]'(by omega) = .bool false := getq t82 (by omega)
                obtain ⟨cz0, cz1, cz2⟩ := HCX.out W hS.2
                clear hdep hfr
                go_simp
                exact hK _ W (Below.refl _ W) (fun W9 hb => rfl)
              case s13 =>
                intro o ho a W hS hsz hdf hfr hdep K hK
                obtain ⟨tm, df⟩ := a
                have hdf : df = [] := hdf
                subst hdf
                have ho := Option.some.inj ho
                subst ho
                have hsz : tm.size = 168 := hsz
                have t8 : tm.getD 8 undef = .int .i64 (j : Int) := hfr 8 (by intro j hj; show 74 + j ≠ 8; omega)
                have t82 : tm.getD 82 undef = .bool false := hdep ⟨8, .guard⟩ (by simp) (by rfl) (by decide) W (Below.refl _ W)
                have u82 : tm[82]'(by omega) = .bool false := getq t82 (by omega)
                clear hdep hfr
                go_simp
                exact hK _ W (Below.refl _ W) (fun W9 hb => rfl)
              case s14 =>
                intro o ho a W hS hsz hdf hfr hdep K hK
                obtain ⟨tm, df⟩ := a
                have hdf : df = [] := hdf
                subst hdf
                have ho := Option.some.inj ho
                subst ho
                have hsz : tm.size = 168 := hsz
                have t86 : tm.getD 86 undef = .agg #[.int .i64 (n : Int), .slice A1 m.val.length c1, .slice A2 m.rel.length c2] := hdep ⟨12, .data⟩ (by simp) (by rfl) (by decide) W (Below.refl _ W)
                have t87 : tm.getD 87 undef = .int .i64 (j : Int) := hdep ⟨13, .data⟩ (by simp) (by rfl) (by decide) W (Below.refl _ W)
                have t82 : tm.getD 82 undef = .bool false := hdep ⟨8, .guard⟩ (by simp) (by rfl) (by decide) W (Below.refl _ W)
                have u82 : tm[82]'(by omega) = .bool false := getq t82 (by omega)
                clear hdep hfr
                go_simp
                refine (KF2.out W hS.2).mono ?_
                rintro e W9 ⟨rfl, hb⟩
                exact hK _ W9 hb (fun W8 hc => rfl)
              case s15 =>
                intro o ho a W hS hsz hdf hfr hdep K hK
                obtain ⟨tm, df⟩ := a
                have hdf : df = [] := hdf
                subst hdf
                have ho := Option.some.inj ho
                subst ho
                have hsz : tm.size = 168 := hsz
                have t85 : tm.getD 85 undef = .int .i64 fv := hdep ⟨11, .data⟩ (by simp) (by rfl) (by decide) W (Below.refl _ W)
                have t88 : tm.getD 88 undef = .int .i64 fv := hdep ⟨14, .data⟩ (by simp) (by rfl) (by decide) W (Below.refl _ W)
                have t82 : tm.getD 82 undef = .bool false := hdep ⟨8, .guard⟩ (by simp) (by rfl) (by decide) W (Below.refl _ W)
                have u82 : tm[82]'(by omega) = .bool false := getq t82 (by omega)
                clear hdep hfr
                go_simp
                exact hK _ W (Below.refl _ W) (fun W9 hb => rfl)
              case s16 =>
                intro o ho a W hS hsz hdf hfr hdep K hK
                obtain ⟨tm, df⟩ := a
                have hdf : df = [] := hdf
                subst hdf
                have ho := Option.some.inj ho
                subst ho
                have hsz : tm.size = 168 := hsz
                have t82 : tm.getD 82 undef = .bool false := hdep ⟨8, .data⟩ (by simp) (by rfl) (by decide) W (Below.refl _ W)
                have t89 : tm.getD 89 undef = .bool false := hdep ⟨15, .data⟩ (by simp) (by rfl) (by decide) W (Below.refl _ W)
                clear hdep hfr
                go_simp
                exact hK _ W (Below.refl _ W) (fun W9 hb => rfl)
            case fin =>
              intro W hS
              simp only [fillT]
              have cz := hS.1.cell x HFL.out
              have cf := hS.1.free x
              go_simp
              go_wp2
              go_roundw
              case rel => exact ⟨j + 1, by omega, by go_num, Lib.hid ⟨by rw [HFR1.out, HFR.out]; exact hS.1.put x j, hS.2.trans (below_set W w6.heap.size x _ hS.2.size)⟩⟩
              case measure => first | (simp [intOf]; done) | (simp [intOf]; omega)
          · obtain rfl : n = j := by omega
            clear hlt
            have HFN := Lib.hid (frK_end HP.out)
            rw [HFN.out] at HO
            have HOB : Hid (Below w6.heap.size w6 wr) := Lib.hid HO.out.2
            have HON : Hid (HoldsN wr w6.heap.size (invL n tp)) := Lib.hid HO.out.1
            clear HFN
            rename World => wq
            have HXq : Hid (MBox wq w.heap.size (n : Int) (.slice A1 m.val.length c1) (.slice A2 m.rel.length c2)) := Lib.hid (HX.out.below HOB.out HX.out.lt)
            have HXaq : Hid (MBox wq bHXa (n : Int) (.slice U1 m.val.length e1) (.slice U2 m.rel.length e2)) := Lib.hid (HXa.out.below HOB.out HXa.out.lt)
            have HBq : Hid (Below w.heap.size w wq) := Lib.hid (HB.out.trans (HOB.out.mono HB.out.size))
            have HMAq := Lib.hid (HMA.out.below HOB.out HOB.out.size)
            have HUR : Hid (UsR wq wq.heap.size U2 m.rel.length nm.rel) := Lib.hid (by obtain ⟨z1, z2, z3, z4, ze, _, zr⟩ := HMAq.out.ex; injection ze with ze; have h3 := congrArg (fun l => l.getD 2 undef) (congrArg Array.toList ze); simp at h3; obtain ⟨rfl, _, rfl⟩ := h3; rw [HNO.out.agents] at zr; exact zr)
            have HMR : Hid (UsR wq wq.heap.size A2 m.rel.length m.rel) := Lib.hid (HRU.out.below HBq.out HBq.out.size)
            have HIR : Hid (Reads wq wq.heap.size 1 A n (ints tp)) := HIW.out _ HBq.out |> Lib.hid
            obtain ⟨b2, hb2, hb2lt⟩ : ∃ b2 : Nat, b2 = w6.heap.size ∧ b2 < wq.heap.size := ⟨_, rfl, HON.out.lt⟩
            skip
            have c2x := HXq.out.c2
            have hrl : m.rel.length ≤ 4 := HOK.out.agents
            generalize hqq : m.rel.length = qq at *
            have HQQ := Lib.hid hqq
            clear hqq
            go_wp2
            go_loopw [10, 11, 12, 99, 104, 109] (fun _ _ _ i _ _ wr => ∃ a : Nat, a ≤ qq ∧ i = .int .i64 a ∧ Hid (Below wq.heap.size wq wr)) (fun _ _ _ i _ _ _ => qq - (intOf i).toNat)
            case atStart => exact ⟨0, Nat.zero_le _, rfl, Lib.hid (Below.refl _ _)⟩
            case round =>
              clear c2x
              obtain ⟨a, ha, rfl, HO1⟩ := hrel
              by_cases hla : a < qq
              · go_wp2
                go_loopw [11, 12, 104, 109] (fun _ _ i _ wr => ∃ x : Nat, x ≤ n ∧ i = .int .i64 x ∧ Hid (Below wq.heap.size wq wr)) (fun _ _ i _ _ => n - (intOf i).toNat)
                case atStart => exact ⟨0, Nat.zero_le _, rfl, HO1⟩
                case round =>
                  obtain ⟨x, hx, rfl, HO2⟩ := hrel
                  by_cases hlx : x < n
                  · go_wp2
                    go_loopw [12, 109] (fun _ i wr => ∃ y : Nat, y ≤ n ∧ i = .int .i64 y ∧ Hid (Below wq.heap.size wq wr)) (fun _ i _ => n - (intOf i).toNat)
                    case atStart => exact ⟨0, Nat.zero_le _, rfl, HO2⟩
                    case round =>
                      obtain ⟨y, hy, rfl, HO3⟩ := hrel
                      by_cases hly : y < n
                      · have ha4 : a < m.rel.length := by have := HQQ.out; omega
                        obtain ⟨an, Nj, nc, rfl, hban, hcan, hrn, _⟩ := HUR.out.at_ hla
                        obtain ⟨am, Mj, mc, rfl, hbam, hcam, hrm, _⟩ := HMR.out.at_ hla
                        have hln := HNO.out.len a ha4
                        have hlm := HOK.out.len (m.rel.getD a []) (getD_mem' ha4)
                        rw [hln] at hcan hrn
                        rw [hlm] at hcam hrm
                        obtain ⟨ai, rfl, hbai, hcx⟩ := HIR.out.int_k hlx
                        obtain ⟨ai2, e5, _, hcy⟩ := HIR.out.int_k hly
                        obtain rfl : ai = ai2 := Option.some.inj e5
                        clear e5
                        have hrx := HP.out.rng x hlx
                        have hry := HP.out.rng y hly
                        obtain ⟨x2, hx2⟩ : ∃ x2 : Nat, tp.getD x 0 = (x2 : Int) := ⟨(tp.getD x 0).toNat, by omega⟩
                        obtain ⟨y2, hy2⟩ : ∃ y2 : Nat, tp.getD y 0 = (y2 : Int) := ⟨(tp.getD y 0).toNat, by omega⟩
                        have hx2n : x2 < n := by omega
                        have hy2n : y2 < n := by omega
                        have hbit := HNO.out.bit a x y ha4 hlx hly
                        rw [hx2, hy2] at hbit
                        rw [Int.toNat_natCast, Int.toNat_natCast] at hbit
                        obtain ⟨aj, rfl, hbaj, hcm⟩ := hrm.word_k (k := x) hlx
                        obtain ⟨nj, rfl, hbnj, hcn⟩ := hrn.word_k (k := x2) hx2n
                        have hp64 : 2 ^ n ≤ 18446744073709551616 := Nat.pow_le_pow_right (show 0 < 2 by decide) hle
                        have hz1 : (m.rel.getD a []).getD x 0 < 18446744073709551616 := Nat.lt_of_lt_of_le (relW_lt HOK.out.rel a x) hp64
                        have hz2 : (nm.rel.getD a []).getD x2 0 < 18446744073709551616 := Nat.lt_of_lt_of_le (HNO.out.small a x2) hp64
                        have hb1 := bit_and (k := y) hz1
                        have hb2' := bit_and (k := y2) hz2
                        rw [hbit] at hb2'
                        rw [hx2] at hcx
                        rw [hy2] at hcy
                        have hy64 : y < 64 := by omega
                        have hy264 : y2 < 64 := by omega
                        generalize (if ((m.rel.getD a []).getD x 0).testBit y = true then (1 : Int) else 0) = bb at *
                        clear hbit hz1 hz2 hrn hrm hln hlm hrx hry hx2 hy2 hp64
                        generalize (m.rel.getD a []).getD x 0 = z at *
                        generalize (nm.rel.getD a []).getD x2 0 = z2 at *
                        have HC : Hid (∀ W, Below wq.heap.size wq W → W.cell? ⟨bHXa, 2, none⟩ = some (.slice (some an) qq e2) ∧ W.cell? ⟨w.heap.size, 2, none⟩ = some (.slice (some am) qq c2) ∧ W.cell? (an.add a) = some (.slice (some nj) n nc) ∧ W.cell? (am.add a) = some (.slice (some aj) n mc) ∧ W.cell? (ai.add x) = some (.int .i64 (x2 : Int)) ∧ W.cell? (ai.add y) = some (.int .i64 (y2 : Int)) ∧ W.cell? (aj.add x) = some (.int .u64 (z : Int)) ∧ W.cell? (nj.add x2) = some (.int .u64 (z2 : Int))) := Lib.hid (fun W h => ⟨(HXaq.out.below h HXaq.out.lt).c2, (HXq.out.below h HXq.out.lt).c2, (h.cell (by rw [block_of_add]; exact hban)).trans hcan, (h.cell (by rw [block_of_add]; exact hbam)).trans hcam, (h.cell (by rw [block_of_add]; exact hbai)).trans hcx, (h.cell (by rw [block_of_add]; exact hbai)).trans hcy, (h.cell (by rw [block_of_add]; exact hbaj)).trans hcm, (h.cell (by rw [block_of_add]; exact hbnj)).trans hcn⟩)
                        clear hcan hcam hcx hcy hcm hcn
                        go_wp2
                        refine wp_region_const [.pointer (some ⟨bHXa, 2, none⟩), .slice (some an) qq e2, .int .i64 (a : Int), .pointer (some (an.add a)), .slice (some nj) n nc, .int .i64 (n : Int), .slice (some ai) n c, .int .i64 (n : Int), .bool false, .bool false, .pointer (some ⟨w.heap.size, 2, none⟩), .slice (some am) qq c2, .int .i64 (a : Int), .pointer (some (am.add a)), .slice (some aj) n mc, .int .i64 (x : Int), .pointer (some (aj.add x)), .int .u64 (z : Int), .int .i64 (y : Int), .int .u64 ((z : Int) / 2 ^ y), .int .u64 bb, .pointer (some ⟨bHXa, 2, none⟩), .slice (some an) qq e2, .int .i64 (a : Int), .pointer (some (an.add a)), .slice (some nj) n nc, .slice (some ai) n c, .int .i64 (x : Int), .pointer (some (ai.add x)), .int .i64 (x2 : Int), .pointer (some (nj.add x2)), .int .u64 (z2 : Int), .slice (some ai) n c, .int .i64 (y : Int), .pointer (some (ai.add y)), .int .i64 (y2 : Int), .int .u64 ((z2 : Int) / 2 ^ y2), .int .u64 bb, .bool false, .bool false] 112 (fun W => Below wq.heap.size wq W) (fun W W' => Below W.heap.size W W') 40 168 rfl rfl rfl (by omega) (by kernel_rfl) (by kernel_rfl) (by kernel_rfl) (fun W => Below.refl _ W) (fun W1 W2 W3 h1 h2 => h1.trans (h2.mono h1.size)) (fun W W' h h2 => h.trans (h2.mono h.size)) HO3.out.drew ?hop ?fin
                        case hop =>
                          refine (lt_more (lt_more (lt_more (lt_more (lt_more (lt_more (lt_more (lt_more (lt_more (lt_more (lt_more (lt_more (lt_more (lt_more (lt_more (lt_more (lt_more (lt_more (lt_more (lt_more (lt_more (lt_more (lt_more (lt_more (lt_more (lt_more (lt_more (lt_more (lt_more (lt_more (lt_more (lt_more (lt_more (lt_more (lt_more (lt_more (lt_more (lt_more (lt_more (lt_more (lt_none _) ?s0) ?s1) ?s2) ?s3) ?s4) ?s5) ?s6) ?s7) ?s8) ?s9) ?s10) ?s11) ?s12) ?s13) ?s14) ?s15) ?s16) ?s17) ?s18) ?s19) ?s20) ?s21) ?s22) ?s23) ?s24) ?s25) ?s26) ?s27) ?s28) ?s29) ?s30) ?s31) ?s32) ?s33) ?s34) ?s35) ?s36) ?s37) ?s38) ?s39)
                          case s0 =>
                            intro o ho a W hS hsz hdf hfr hdep K hK
                            obtain ⟨tm, df⟩ := a
                            have hdf : df = [] := hdf
                            subst hdf
                            have ho := Option.some.inj ho
                            subst ho
                            have hsz : tm.size = 168 := hsz
                            have t5 : tm.getD 5 undef = .pointer (some ⟨bHXa, 0, none⟩) := hfr 5 (by intro j hj; show 112 + j ≠ 5; omega)
                            clear hdep hfr
                            go_simp
                            exact hK _ W (Below.refl _ W) (fun W9 hb => rfl)
                          case s1 =>
                            intro o ho a W hS hsz hdf hfr hdep K hK
                            obtain ⟨tm, df⟩ := a
                            have hdf : df = [] := hdf
                            subst hdf
                            have ho := Option.some.inj ho
                            subst ho
                            have hsz : tm.size = 168 := hsz
                            have t112 : tm.getD 112 undef = .pointer (some ⟨bHXa, 2, none⟩) := hdep ⟨0, .data⟩ (by simp) (by rfl) (by decide) W (Below.refl _ W)
                            obtain ⟨cz0, cz1, cz2, cz3, cz4, cz5, cz6, cz7⟩ := HC.out W hS
                            clear hdep hfr
                            go_simp
                            exact hK _ W (Below.refl _ W) (fun W9 hb => rfl)
                          case s2 =>
                            intro o ho a W hS hsz hdf hfr hdep K hK
                            obtain ⟨tm, df⟩ := a
                            have hdf : df = [] := hdf
                            subst hdf
                            have ho := Option.some.inj ho
                            subst ho
                            have hsz : tm.size = 168 := hsz
                            have t10 : tm.getD 10 undef = .int .i64 (a : Int) := hfr 10 (by intro j hj; show 112 + j ≠ 10; omega)
                            clear hdep hfr
                            go_simp
                            exact hK _ W (Below.refl _ W) (fun W9 hb => rfl)
                          case s3 =>
                            intro o ho a W hS hsz hdf hfr hdep K hK
                            obtain ⟨tm, df⟩ := a
                            have hdf : df = [] := hdf
                            subst hdf
                            have ho := Option.some.inj ho
                            subst ho
                            have hsz : tm.size = 168 := hsz
                            have t113 : tm.getD 113 undef = .slice (some an) qq e2 := hdep ⟨1, .data⟩ (by simp) (by rfl) (by decide) W (Below.refl _ W)
                            have t114 : tm.getD 114 undef = .int .i64 (a : Int) := hdep ⟨2, .data⟩ (by simp) (by rfl) (by decide) W (Below.refl _ W)
                            clear hdep hfr
                            go_simp
                            exact hK _ W (Below.refl _ W) (fun W9 hb => rfl)
                          case s4 =>
                            intro o ho a W hS hsz hdf hfr hdep K hK
                            obtain ⟨tm, df⟩ := a
                            have hdf : df = [] := hdf
                            subst hdf
                            have ho := Option.some.inj ho
                            subst ho
                            have hsz : tm.size = 168 := hsz
                            have t115 : tm.getD 115 undef = .pointer (some (an.add a)) := hdep ⟨3, .data⟩ (by simp) (by rfl) (by decide) W (Below.refl _ W)
                            obtain ⟨cz0, cz1, cz2, cz3, cz4, cz5, cz6, cz7⟩ := HC.out W hS
                            clear hdep hfr
                            go_simp
                            exact hK _ W (Below.refl _ W) (fun W9 hb => rfl)
                          case s5 =>
                            intro o ho a W hS hsz hdf hfr hdep K hK
                            obtain ⟨tm, df⟩ := a
                            have hdf : df = [] := hdf
                            subst hdf
                            have ho := Option.some.inj ho
                            subst ho
                            have hsz : tm.size = 168 := hsz
                            have t116 : tm.getD 116 undef = .slice (some nj) n nc := hdep ⟨4, .data⟩ (by simp) (by rfl) (by decide) W (Below.refl _ W)
                            clear hdep hfr
                            go_simp
                            exact hK _ W (Below.refl _ W) (fun W9 hb => rfl)
                          case s6 =>
                            intro o ho a W hS hsz hdf hfr hdep K hK
                            obtain ⟨tm, df⟩ := a
                            have hdf : df = [] := hdf
                            subst hdf
                            have ho := Option.some.inj ho
                            subst ho
                            have hsz : tm.size = 168 := hsz
                            have t1 : tm.getD 1 undef = .slice (some ai) n c := hfr 1 (by intro j hj; show 112 + j ≠ 1; omega)
                            clear hdep hfr
                            go_simp
                            exact hK _ W (Below.refl _ W) (fun W9 hb => rfl)
                          case s7 =>
                            intro o ho a W hS hsz hdf hfr hdep K hK
                            obtain ⟨tm, df⟩ := a
                            have hdf : df = [] := hdf
                            subst hdf
                            have ho := Option.some.inj ho
                            subst ho
                            have hsz : tm.size = 168 := hsz
                            have t118 : tm.getD 118 undef = .slice (some ai) n c := hdep ⟨6, .data⟩ (by simp) (by rfl) (by decide) W (Below.refl _ W)
                            clear hdep hfr
                            go_simp
                            exact hK _ W (Below.refl _ W) (fun W9 hb => rfl)
                          case s8 =>
                            intro o ho a W hS hsz hdf hfr hdep K hK
                            obtain ⟨tm, df⟩ := a
                            have hdf : df = [] := hdf
                            subst hdf
                            have ho := Option.some.inj ho
                            subst ho
                            have hsz : tm.size = 168 := hsz
                            have t117 : tm.getD 117 undef = .int .i64 (n : Int) := hdep ⟨5, .data⟩ (by simp) (by rfl) (by decide) W (Below.refl _ W)
                            have t119 : tm.getD 119 undef = .int .i64 (n : Int) := hdep ⟨7, .data⟩ (by simp) (by rfl) (by decide) W (Below.refl _ W)
                            clear hdep hfr
                            go_simp
                            exact hK _ W (Below.refl _ W) (fun W9 hb => rfl)
                          case s9 =>
                            intro o ho a W hS hsz hdf hfr hdep K hK
                            obtain ⟨tm, df⟩ := a
                            have hdf : df = [] := hdf
                            subst hdf
                            have ho := Option.some.inj ho
                            subst ho
                            have hsz : tm.size = 168 := hsz
                            have t120 : tm.getD 120 undef = .bool false := hdep ⟨8, .data⟩ (by simp) (by rfl) (by decide) W (Below.refl _ W)
                            clear hdep hfr
                            go_simp
                            exact hK _ W (Below.refl _ W) (fun W9 hb => rfl)
                          case s10 =>
                            intro o ho a W hS hsz hdf hfr hdep K hK
                            obtain ⟨tm, df⟩ := a
                            have hdf : df = [] := hdf
                            subst hdf
                            have ho := Option.some.inj ho
                            subst ho
                            have hsz : tm.size = 168 := hsz
                            have t2 : tm.getD 2 undef = .pointer (some ⟨w.heap.size, 0, none⟩) := hfr 2 (by intro j hj; show 112 + j ≠ 2; omega)
                            have t121 : tm.getD 121 undef = .bool false := hdep ⟨9, .guard⟩ (by simp) (by rfl) (by decide) W (Below.refl _ W)
                            have u121 : tm[121]'(by omega) = .bool false := getq t121 (by omega)
                            clear hdep hfr
                            go_simp
                            exact hK _ W (Below.refl _ W) (fun W9 hb => rfl)
                          case s11 =>
                            intro o ho a W hS hsz hdf hfr hdep K hK
                            obtain ⟨tm, df⟩ := a
                            have hdf : df = [] := hdf
                            subst hdf
                            have ho := Option.some.inj ho
                            subst ho
                            have hsz : tm.size = 168 := hsz
                            have t122 : tm.getD 122 undef = .pointer (some ⟨w.heap.size, 2, none⟩) := hdep ⟨10, .data⟩ (by simp) (by rfl) (by decide) W (Below.refl _ W)
                            have t121 : tm.getD 121 undef = .bool false := hdep ⟨9, .guard⟩ (by simp) (by rfl) (by decide) W (Below.refl _ W)
                            have u121 : tm[121]'(by omega) = .bool false := getq t121 (by omega)
                            obtain ⟨cz0, cz1, cz2, cz3, cz4, cz5, cz6, cz7⟩ := HC.out W hS
                            clear hdep hfr
                            go_simp
                            exact hK _ W (Below.refl _ W) (fun W9 hb => rfl)
                          case s12 =>
                            intro o ho a W hS hsz hdf hfr hdep K hK
                            obtain ⟨tm, df⟩ := a
                            have hdf : df = [] := hdf
                            subst hdf
                            have ho := Option.some.inj ho
                            subst ho
                            have hsz : tm.size = 168 := hsz
                            have t10 : tm.getD 10 undef = .int .i64 (a : Int) := hfr 10 (by intro j hj; show 112 + j ≠ 10; omega)
                            have t121 : tm.getD 121 undef = .bool false := hdep ⟨9, .guard⟩ (by simp) (by rfl) (by decide) W (Below.refl _ W)
                            have u121 : tm[121]'(by omega) = .bool false := getq t121 (by omega)
                            clear hdep hfr
                            go_simp
                            exact hK _ W (Below.refl _ W) (fun W9 hb => rfl)
                          case s13 =>
                            intro o ho a W hS hsz hdf hfr hdep K hK
                            obtain ⟨tm, df⟩ := a
                            have hdf : df = [] := hdf
                            subst hdf
                            have ho := Option.some.inj ho
                            subst ho
                            have hsz : tm.size = 168 := hsz
                            have t123 : tm.getD 123 undef = .slice (some am) qq c2 := hdep ⟨11, .data⟩ (by simp) (by rfl) (by decide) W (Below.refl _ W)
                            have t124 : tm.getD 124 undef = .int .i64 (a : Int) := hdep ⟨12, .data⟩ (by simp) (by rfl) (by decide) W (Below.refl _ W)
                            have t121 : tm.getD 121 undef = .bool false := hdep ⟨9, .guard⟩ (by simp) (by rfl) (by decide) W (Below.refl _ W)
                            have u121 : tm[121]'(by omega) = .bool false := getq t121 (by omega)
                            clear hdep hfr
                            go_simp
                            exact hK _ W (Below.refl _ W) (fun W9 hb => rfl)
                          case s14 =>
                            intro o ho a W hS hsz hdf hfr hdep K hK
                            obtain ⟨tm, df⟩ := a
                            have hdf : df = [] := hdf
                            subst hdf
                            have ho := Option.some.inj ho
                            subst ho
                            have hsz : tm.size = 168 := hsz
                            have t125 : tm.getD 125 undef = .pointer (some (am.add a)) := hdep ⟨13, .data⟩ (by simp) (by rfl) (by decide) W (Below.refl _ W)
                            have t121 : tm.getD 121 undef = .bool false := hdep ⟨9, .guard⟩ (by simp) (by rfl) (by decide) W (Below.refl _ W)
                            have u121 : tm[121]'(by omega) = .bool false := getq t121 (by omega)
                            obtain ⟨cz0, cz1, cz2, cz3, cz4, cz5, cz6, cz7⟩ := HC.out W hS
                            clear hdep hfr
                            go_simp
                            exact hK _ W (Below.refl _ W) (fun W9 hb => rfl)
                          case s15 =>
                            intro o ho a W hS hsz hdf hfr hdep K hK
                            obtain ⟨tm, df⟩ := a
                            have hdf : df = [] := hdf
                            subst hdf
                            have ho := Option.some.inj ho
                            subst ho
                            have hsz : tm.size = 168 := hsz
                            have t11 : tm.getD 11 undef = .int .i64 (x : Int) := hfr 11 (by intro j hj; show 112 + j ≠ 11; omega)
                            have t121 : tm.getD 121 undef = .bool false := hdep ⟨9, .guard⟩ (by simp) (by rfl) (by decide) W (Below.refl _ W)
                            have u121 : tm[121]'(by omega) = .bool false := getq t121 (by omega)
                            clear hdep hfr
                            go_simp
                            exact hK _ W (Below.refl _ W) (fun W9 hb => rfl)
                          case s16 =>
                            intro o ho a W hS hsz hdf hfr hdep K hK
                            obtain ⟨tm, df⟩ := a
                            have hdf : df = [] := hdf
                            subst hdf
                            have ho := Option.some.inj ho
                            subst ho
                            have hsz : tm.size = 168 := hsz
                            have t126 : tm.getD 126 undef = .slice (some aj) n mc := hdep ⟨14, .data⟩ (by simp) (by rfl) (by decide) W (Below.refl _ W)
                            have t127 : tm.getD 127 undef = .int .i64 (x : Int) := hdep ⟨15, .data⟩ (by simp) (by rfl) (by decide) W (Below.refl _ W)
                            have t121 : tm.getD 121 undef = .bool false := hdep ⟨9, .guard⟩ (by simp) (by rfl) (by decide) W (Below.refl _ W)
                            have u121 : tm[121]'(by omega) = .bool false := getq t121 (by omega)
                            clear hdep hfr
                            go_simp
                            exact hK _ W (Below.refl _ W) (fun W9 hb => rfl)
                          case s17 =>
                            intro o ho a W hS hsz hdf hfr hdep K hK
                            obtain ⟨tm, df⟩ := a
                            have hdf : df = [] := hdf
                            subst hdf
                            have ho := Option.some.inj ho
                            subst ho
                            have hsz : tm.size = 168 := hsz
                            have t128 : tm.getD 128 undef = .pointer (some (aj.add x)) := hdep ⟨16, .data⟩ (by simp) (by rfl) (by decide) W (Below.refl _ W)
                            have t121 : tm.getD 121 undef = .bool false := hdep ⟨9, .guard⟩ (by simp) (by rfl) (by decide) W (Below.refl _ W)
                            have u121 : tm[121]'(by omega) = .bool false := getq t121 (by omega)
                            obtain ⟨cz0, cz1, cz2, cz3, cz4, cz5, cz6, cz7⟩ := HC.out W hS
                            clear hdep hfr
                            go_simp
                            exact hK _ W (Below.refl _ W) (fun W9 hb => rfl)
                          case s18 =>
                            intro o ho a W hS hsz hdf hfr hdep K hK
                            obtain ⟨tm, df⟩ := a
                            have hdf : df = [] := hdf
                            subst hdf
                            have ho := Option.some.inj ho
                            subst ho
                            have hsz : tm.size = 168 := hsz
                            have t12 : tm.getD 12 undef = .int .i64 (y : Int) := hfr 12 (by intro j hj; show 112 + j ≠ 12; omega)
                            have t121 : tm.getD 121 undef = .bool false := hdep ⟨9, .guard⟩ (by simp) (by rfl) (by decide) W (Below.refl _ W)
                            have u121 : tm[121]'(by omega) = .bool false := getq t121 (by omega)
                            clear hdep hfr
                            go_simp
                            exact hK _ W (Below.refl _ W) (fun W9 hb => rfl)
                          case s19 =>
                            intro o ho a W hS hsz hdf hfr hdep K hK
                            obtain ⟨tm, df⟩ := a
                            have hdf : df = [] := hdf
                            subst hdf
                            have ho := Option.some.inj ho
                            subst ho
                            have hsz : tm.size = 168 := hsz
                            have t129 : tm.getD 129 undef = .int .u64 (z : Int) := hdep ⟨17, .data⟩ (by simp) (by rfl) (by decide) W (Below.refl _ W)
                            have t130 : tm.getD 130 undef = .int .i64 (y : Int) := hdep ⟨18, .data⟩ (by simp) (by rfl) (by decide) W (Below.refl _ W)
                            have t121 : tm.getD 121 undef = .bool false := hdep ⟨9, .guard⟩ (by simp) (by rfl) (by decide) W (Below.refl _ W)
                            have u121 : tm[121]'(by omega) = .bool false := getq t121 (by omega)
                            clear hdep hfr
                            go_simp
                            exact hK _ W (Below.refl _ W) (fun W9 hb => rfl)
                          case s20 =>
                            intro o ho a W hS hsz hdf hfr hdep K hK
                            obtain ⟨tm, df⟩ := a
                            have hdf : df = [] := hdf
                            subst hdf
                            have ho := Option.some.inj ho
                            subst ho
                            have hsz : tm.size = 168 := hsz
                            have t131 : tm.getD 131 undef = .int .u64 ((z : Int) / 2 ^ y) := hdep ⟨19, .data⟩ (by simp) (by rfl) (by decide) W (Below.refl _ W)
                            have t121 : tm.getD 121 undef = .bool false := hdep ⟨9, .guard⟩ (by simp) (by rfl) (by decide) W (Below.refl _ W)
                            have u121 : tm[121]'(by omega) = .bool false := getq t121 (by omega)
                            clear hdep hfr
                            go_simp
                            exact hK _ W (Below.refl _ W) (fun W9 hb => rfl)
                          case s21 =>
                            intro o ho a W hS hsz hdf hfr hdep K hK
                            obtain ⟨tm, df⟩ := a
                            have hdf : df = [] := hdf
                            subst hdf
                            have ho := Option.some.inj ho
                            subst ho
                            have hsz : tm.size = 168 := hsz
                            have t5 : tm.getD 5 undef = .pointer (some ⟨bHXa, 0, none⟩) := hfr 5 (by intro j hj; show 112 + j ≠ 5; omega)
                            have t121 : tm.getD 121 undef = .bool false := hdep ⟨9, .guard⟩ (by simp) (by rfl) (by decide) W (Below.refl _ W)
                            have u121 : tm[121]'(by omega) = .bool false := getq t121 (by omega)
                            clear hdep hfr
                            go_simp
                            exact hK _ W (Below.refl _ W) (fun W9 hb => rfl)
                          case s22 =>
                            intro o ho a W hS hsz hdf hfr hdep K hK
                            obtain ⟨tm, df⟩ := a
                            have hdf : df = [] := hdf
                            subst hdf
                            have ho := Option.some.inj ho
                            subst ho
                            have hsz : tm.size = 168 := hsz
                            have t133 : tm.getD 133 undef = .pointer (some ⟨bHXa, 2, none⟩) := hdep ⟨21, .data⟩ (by simp) (by rfl) (by decide) W (Below.refl _ W)
                            have t121 : tm.getD 121 undef = .bool false := hdep ⟨9, .guard⟩ (by simp) (by rfl) (by decide) W (Below.refl _ W)
                            have u121 : tm[121]'(by omega) = .bool false := getq t121 (by omega)
                            obtain ⟨cz0, cz1, cz2, cz3, cz4, cz5, cz6, cz7⟩ := HC.out W hS
                            clear hdep hfr
                            go_simp
                            exact hK _ W (Below.refl _ W) (fun W9 hb => rfl)
                          case s23 =>
                            intro o ho a W hS hsz hdf hfr hdep K hK
                            obtain ⟨tm, df⟩ := a
                            have hdf : df = [] := hdf
                            subst hdf
                            have ho := Option.some.inj ho
                            subst ho
                            have hsz : tm.size = 168 := hsz
                            have t10 : tm.getD 10 undef = .int .i64 (a : Int) := hfr 10 (by intro j hj; show 112 + j ≠ 10; omega)
                            have t121 : tm.getD 121 undef = .bool false := hdep ⟨9, .guard⟩ (by simp) (by rfl) (by decide) W (Below.refl _ W)
                            have u121 : tm[121]'(by omega) = .bool false := getq t121 (by omega)
                            clear hdep hfr
                            go_simp
                            exact hK _ W (Below.refl _ W) (fun W9 hb => rfl)
                          case s24 =>
                            intro o ho a W hS hsz hdf hfr hdep K hK
                            obtain ⟨tm, df⟩ := a
                            have hdf : df = [] := hdf
                            subst hdf
                            have ho := Option.some.inj ho
                            subst ho
                            have hsz : tm.size = 168 := hsz
                            have t134 : tm.getD 134 undef = .slice (some an) qq e2 := hdep ⟨22, .data⟩ (by simp) (by rfl) (by decide) W (Below.refl _ W)
                            have t135 : tm.getD 135 undef = .int .i64 (a : Int) := hdep ⟨23, .data⟩ (by simp) (by rfl) (by decide) W (Below.refl _ W)
                            have t121 : tm.getD 121 undef = .bool false := hdep ⟨9, .guard⟩ (by simp) (by rfl) (by decide) W (Below.refl _ W)
                            have u121 : tm[121]'(by omega) = .bool false := getq t121 (by omega)
                            clear hdep hfr
                            go_simp
                            exact hK _ W (Below.refl _ W) (fun W9 hb => rfl)
                          case s25 =>
                            intro o ho a W hS hsz hdf hfr hdep K hK
                            obtain ⟨tm, df⟩ := a
                            have hdf : df = [] := hdf
                            subst hdf
                            have ho := Option.some.inj ho
                            subst ho
                            have hsz : tm.size = 168 := hsz
                            have t136 : tm.getD 136 undef = .pointer (some (an.add a)) := hdep ⟨24, .data⟩ (by simp) (by rfl) (by decide) W (Below.refl _ W)
                            have t121 : tm.getD 121 undef = .bool false := hdep ⟨9, .guard⟩ (by simp) (by rfl) (by decide) W (Below.refl _ W)
                            have u121 : tm[121]'(by omega) = .bool false := getq t121 (by omega)
                            obtain ⟨cz0, cz1, cz2, cz3, cz4, cz5, cz6, cz7⟩ := HC.out W hS
                            clear hdep hfr
                            go_simp
                            exact hK _ W (Below.refl _ W) (fun W9 hb => rfl)
                          case s26 =>
                            intro o ho a W hS hsz hdf hfr hdep K hK
                            obtain ⟨tm, df⟩ := a
                            have hdf : df = [] := hdf
                            subst hdf
                            have ho := Option.some.inj ho
                            subst ho
                            have hsz : tm.size = 168 := hsz
                            have t1 : tm.getD 1 undef = .slice (some ai) n c := hfr 1 (by intro j hj; show 112 + j ≠ 1; omega)
                            have t121 : tm.getD 121 undef = .bool false := hdep ⟨9, .guard⟩ (by simp) (by rfl) (by decide) W (Below.refl _ W)
                            have u121 : tm[121]'(by omega) = .bool false := getq t121 (by omega)
                            clear hdep hfr
                            go_simp
                            exact hK _ W (Below.refl _ W) (fun W9 hb => rfl)
                          case s27 =>
                            intro o ho a W hS hsz hdf hfr hdep K hK
                            obtain ⟨tm, df⟩ := a
                            have hdf : df = [] := hdf
                            subst hdf
                            have ho := Option.some.inj ho
                            subst ho
                            have hsz : tm.size = 168 := hsz
                            have t11 : tm.getD 11 undef = .int .i64 (x : Int) := hfr 11 (by intro j hj; show 112 + j ≠ 11; omega)
                            have t121 : tm.getD 121 undef = .bool false := hdep ⟨9, .guard⟩ (by simp) (by rfl) (by decide) W (Below.refl _ W)
                            have u121 : tm[121]'(by omega) = .bool false := getq t121 (by omega)
                            clear hdep hfr
                            go_simp
                            exact hK _ W (Below.refl _ W) (fun W9 hb => rfl)
                          case s28 =>
                            intro o ho a W hS hsz hdf hfr hdep K hK
                            obtain ⟨tm, df⟩ := a
                            have hdf : df = [] := hdf
                            subst hdf
                            have ho := Option.some.inj ho
                            subst ho
                            have hsz : tm.size = 168 := hsz
                            have t138 : tm.getD 138 undef = .slice (some ai) n c := hdep ⟨26, .data⟩ (by simp) (by rfl) (by decide) W (Below.refl _ W)
                            have t139 : tm.getD 139 undef = .int .i64 (x : Int) := hdep ⟨27, .data⟩ (by simp) (by rfl) (by decide) W (Below.refl _ W)
                            have t121 : tm.getD 121 undef = .bool false := hdep ⟨9, .guard⟩ (by simp) (by rfl) (by decide) W (Below.refl _ W)
                            have u121 : tm[121]'(by omega) = .bool false := getq t121 (by omega)
                            clear hdep hfr
                            go_simp
                            exact hK _ W (Below.refl _ W) (fun W9 hb => rfl)
                          case s29 =>
                            intro o ho a W hS hsz hdf hfr hdep K hK
                            obtain ⟨tm, df⟩ := a
                            have hdf : df = [] := hdf
                            subst hdf
                            have ho := Option.some.inj ho
                            subst ho
                            have hsz : tm.size = 168 := hsz
                            have t140 : tm.getD 140 undef = .pointer (some (ai.add x)) := hdep ⟨28, .data⟩ (by simp) (by rfl) (by decide) W (Below.refl _ W)
                            have t121 : tm.getD 121 undef = .bool false := hdep ⟨9, .guard⟩ (by simp) (by rfl) (by decide) W (Below.refl _ W)
                            have u121 : tm[121]'(by omega) = .bool false := getq t121 (by omega)
                            obtain ⟨cz0, cz1, cz2, cz3, cz4, cz5, cz6, cz7⟩ := HC.out W hS
                            clear hdep hfr
                            go_simp
                            exact hK _ W (Below.refl _ W) (fun W9 hb => rfl)
                          case s30 =>
                            intro o ho a W hS hsz hdf hfr hdep K hK
                            obtain ⟨tm, df⟩ := a
                            have hdf : df = [] := hdf
                            subst hdf
                            have ho := Option.some.inj ho
                            subst ho
                            have hsz : tm.size = 168 := hsz
                            have t137 : tm.getD 137 undef = .slice (some nj) n nc := hdep ⟨25, .data⟩ (by simp) (by rfl) (by decide) W (Below.refl _ W)
                            have t141 : tm.getD 141 undef = .int .i64 (x2 : Int) := hdep ⟨29, .data⟩ (by simp) (by rfl) (by decide) W (Below.refl _ W)
                            have t121 : tm.getD 121 undef = .bool false := hdep ⟨9, .guard⟩ (by simp) (by rfl) (by decide) W (Below.refl _ W)
                            have u121 : tm[121]'(by omega) = .bool false := getq t121 (by omega)
                            clear hdep hfr
                            go_simp
                            exact hK _ W (Below.refl _ W) (fun W9 hb => rfl)
                          case s31 =>
                            intro o ho a W hS hsz hdf hfr hdep K hK
                            obtain ⟨tm, df⟩ := a
                            have hdf : df = [] := hdf
                            subst hdf
                            have ho := Option.some.inj ho
                            subst ho
                            have hsz : tm.size = 168 := hsz
                            have t142 : tm.getD 142 undef = .pointer (some (nj.add x2)) := hdep ⟨30, .data⟩ (by simp) (by rfl) (by decide) W (Below.refl _ W)
                            have t121 : tm.getD 121 undef = .bool false := hdep ⟨9, .guard⟩ (by simp) (by rfl) (by decide) W (Below.refl _ W)
                            have u121 : tm[121]'(by omega) = .bool false := getq t121 (by omega)
                            obtain ⟨cz0, cz1, cz2, cz3, cz4, cz5, cz6, cz7⟩ := HC.out W hS
                            clear hdep hfr
                            go_simp
                            exact hK _ W (Below.refl _ W) (fun W9 hb => rfl)
                          case s32 =>
                            intro o ho a W hS hsz hdf hfr hdep K hK
                            obtain ⟨tm, df⟩ := a
                            have hdf : df = [] := hdf
                            subst hdf
                            have ho := Option.some.inj ho
                            subst ho
                            have hsz : tm.size = 168 := hsz
                            have t1 : tm.getD 1 undef = .slice (some ai) n c := hfr 1 (by intro j hj; show 112 + j ≠ 1; omega)
                            have t121 : tm.getD 121 undef = .bool false := hdep ⟨9, .guard⟩ (by simp) (by rfl) (by decide) W (Below.refl _ W)
                            have u121 : tm[121]'(by omega) = .bool false := getq t121 (by omega)
                            clear hdep hfr
                            go_simp
                            exact hK _ W (Below.refl _ W) (fun W9 hb => rfl)
                          case s33 =>
                            intro o ho a W hS hsz hdf hfr hdep K hK
                            obtain ⟨tm, df⟩ := a
                            have hdf : df = [] := hdf
                            subst hdf
                            have ho := Option.some.inj ho
                            subst ho
                            have hsz : tm.size = 168 := hsz
                            have t12 : tm.getD 12 undef = .int .i64 (y : Int) := hfr 12 (by intro j hj; show 112 + j ≠ 12; omega)
                            have t121 : tm.getD 121 undef = .bool false := hdep ⟨9, .guard⟩ (by simp) (by rfl) (by decide) W (Below.refl _ W)
                            have u121 : tm[121]'(by omega) = .bool false := getq t121 (by omega)
                            clear hdep hfr
                            go_simp
                            exact hK _ W (Below.refl _ W) (fun W9 hb => rfl)
                          case s34 =>
                            intro o ho a W hS hsz hdf hfr hdep K hK
                            obtain ⟨tm, df⟩ := a
                            have hdf : df = [] := hdf
                            subst hdf
                            have ho := Option.some.inj ho
                            subst ho
                            have hsz : tm.size = 168 := hsz
                            have t144 : tm.getD 144 undef = .slice (some ai) n c := hdep ⟨32, .data⟩ (by simp) (by rfl) (by decide) W (Below.refl _ W)
                            have t145 : tm.getD 145 undef = .int .i64 (y : Int) := hdep ⟨33, .data⟩ (by simp) (by rfl) (by decide) W (Below.refl _ W)
                            have t121 : tm.getD 121 undef = .bool false := hdep ⟨9, .guard⟩ (by simp) (by rfl) (by decide) W (Below.refl _ W)
                            have u121 : tm[121]'(by omega) = .bool false := getq t121 (by omega)
                            clear hdep hfr
                            go_simp
                            exact hK _ W (Below.refl _ W) (fun W9 hb => rfl)
                          case s35 =>
                            intro o ho a W hS hsz hdf hfr hdep K hK
                            obtain ⟨tm, df⟩ := a
                            have hdf : df = [] := hdf
                            subst hdf
                            have ho := Option.some.inj ho
                            subst ho
                            have hsz : tm.size = 168 := hsz
                            have t146 : tm.getD 146 undef = .pointer (some (ai.add y)) := hdep ⟨34, .data⟩ (by simp) (by rfl) (by decide) W (Below.refl _ W)
                            have t121 : tm.getD 121 undef = .bool false := hdep ⟨9, .guard⟩ (by simp) (by rfl) (by decide) W (Below.refl _ W)
                            have u121 : tm[121]'(by omega) = .bool false := getq t121 (by omega)
                            obtain ⟨cz0, cz1, cz2, cz3, cz4, cz5, cz6, cz7⟩ := HC.out W hS
                            clear hdep hfr
                            go_simp
                            exact hK _ W (Below.refl _ W) (fun W9 hb => rfl)
                          case s36 =>
                            intro o ho a W hS hsz hdf hfr hdep K hK
                            obtain ⟨tm, df⟩ := a
                            have hdf : df = [] := hdf
                            subst hdf
                            have ho := Option.some.inj ho
                            subst ho
                            have hsz : tm.size = 168 := hsz
                            have t143 : tm.getD 143 undef = .int .u64 (z2 : Int) := hdep ⟨31, .data⟩ (by simp) (by rfl) (by decide) W (Below.refl _ W)
                            have t147 : tm.getD 147 undef = .int .i64 (y2 : Int) := hdep ⟨35, .data⟩ (by simp) (by rfl) (by decide) W (Below.refl _ W)
                            have t121 : tm.getD 121 undef = .bool false := hdep ⟨9, .guard⟩ (by simp) (by rfl) (by decide) W (Below.refl _ W)
                            have u121 : tm[121]'(by omega) = .bool false := getq t121 (by omega)
                            clear hdep hfr
                            go_simp
                            exact hK _ W (Below.refl _ W) (fun W9 hb => rfl)
                          case s37 =>
                            intro o ho a W hS hsz hdf hfr hdep K hK
                            obtain ⟨tm, df⟩ := a
                            have hdf : df = [] := hdf
                            subst hdf
                            have ho := Option.some.inj ho
                            subst ho
                            have hsz : tm.size = 168 := hsz
                            have t148 : tm.getD 148 undef = .int .u64 ((z2 : Int) / 2 ^ y2) := hdep ⟨36, .data⟩ (by simp) (by rfl) (by decide) W (Below.refl _ W)
                            have t121 : tm.getD 121 undef = .bool false := hdep ⟨9, .guard⟩ (by simp) (by rfl) (by decide) W (Below.refl _ W)
                            have u121 : tm[121]'(by omega) = .bool false := getq t121 (by omega)
                            clear hdep hfr
                            go_simp
                            exact hK _ W (Below.refl _ W) (fun W9 hb => rfl)
                          case s38 =>
                            intro o ho a W hS hsz hdf hfr hdep K hK
                            obtain ⟨tm, df⟩ := a
                            have hdf : df = [] := hdf
                            subst hdf
                            have ho := Option.some.inj ho
                            subst ho
                            have hsz : tm.size = 168 := hsz
                            have t132 : tm.getD 132 undef = .int .u64 bb := hdep ⟨20, .data⟩ (by simp) (by rfl) (by decide) W (Below.refl _ W)
                            have t149 : tm.getD 149 undef = .int .u64 bb := hdep ⟨37, .data⟩ (by simp) (by rfl) (by decide) W (Below.refl _ W)
                            have t121 : tm.getD 121 undef = .bool false := hdep ⟨9, .guard⟩ (by simp) (by rfl) (by decide) W (Below.refl _ W)
                            have u121 : tm[121]'(by omega) = .bool false := getq t121 (by omega)
                            clear hdep hfr
                            go_simp
                            exact hK _ W (Below.refl _ W) (fun W9 hb => rfl)
                          case s39 =>
                            intro o ho a W hS hsz hdf hfr hdep K hK
                            obtain ⟨tm, df⟩ := a
                            have hdf : df = [] := hdf
                            subst hdf
                            have ho := Option.some.inj ho
                            subst ho
                            have hsz : tm.size = 168 := hsz
                            have t121 : tm.getD 121 undef = .bool false := hdep ⟨9, .data⟩ (by simp) (by rfl) (by decide) W (Below.refl _ W)
                            have t150 : tm.getD 150 undef = .bool false := hdep ⟨38, .data⟩ (by simp) (by rfl) (by decide) W (Below.refl _ W)
                            clear hdep hfr
                            go_simp
                            exact hK _ W (Below.refl _ W) (fun W9 hb => rfl)
                        case fin =>
                          intro W hS
                          simp only [fillT]
                          go_simp
                          go_wp2
                          go_roundw
                          case rel => exact ⟨y + 1, by omega, by go_num, Lib.hid hS⟩
                          case measure => first | (simp [intOf]; done) | (simp [intOf]; omega)
                      · obtain rfl : n = y := by omega
                        clear hly
                        go_wp2
                        go_roundw
                        case rel => exact ⟨x + 1, by omega, by go_num, HO3⟩
                        case measure => first | (simp [intOf]; done) | (simp [intOf]; omega)
                  · obtain rfl : n = x := by omega
                    clear hlx
                    go_wp2
                    go_roundw
                    case rel => exact ⟨a + 1, by omega, by go_num, HO2⟩
                    case measure => first | (simp [intOf]; done) | (simp [intOf]; omega)
              · obtain rfl : qq = a := by omega
                clear hla
                have HB := HBq
                have HXa := HXaq
                have HMA := HMAq
                have HB5 := Lib.hid (HB.out.trans (HO1.out.mono HB.out.size))
                have HNR := Lib.hid (HON.out.reads)
                have hnl : (invL n tp).length = n := invL_len n tp
                rw [iv_is, hnl] at HNR
                have HXz := Lib.hid (HXa.out.below HO1.out HXa.out.lt)
                have HXm := Lib.hid (HXq.out.below HO1.out HXq.out.lt)
                have HMZ := Lib.hid (upM HMA.out HO1.out)
                have HNZ := Lib.hid (up13 HNR.out HO1.out)
                clear HXa HMA HNR HB hnl
                have HB := HB5
                rename World => w60
                clear HB5
                have HXz_0 := HXz.out.c0
                have HXz_1 := HXz.out.c1
                have HXz_2 := HXz.out.c2
                have HXz_l := HXz.out.lt
                go_wp2_with fail
                clear HXz_0 HXz_1 HXz_2 HXz_l
                refine (pRename_any nm _ ((invL n tp).map (fun x : Nat => (x : Int))) _ n n w60 HMZ.out HNZ.out (by unfold maxLen; omega)).mono ?_
                rintro e w61 ⟨vb, rfl, hm, hb⟩
                replace HB := Lib.hid (upB HB.out (Nat.le_refl _) hb)
                replace HXz := Lib.hid (upX HXz.out hb)
                replace HXm := Lib.hid (upX HXm.out hb)
                replace HMZ := Lib.hid (upM HMZ.out hb)
                clear hb
                have hm := hm.self
                rw [HNO.out.backM] at hm
                rw [HNO.out.backE]
                obtain ⟨X1, Xc1, X2, Xc2, rfl⟩ := hm.shape (n := (n : Int)) (k := m.val.length) (q := qq) HMV.out rfl HQQ.out
                have HMC := Lib.hid hm
                clear hm
                have HXm_0 := HXm.out.c0
                have HXm_1 := HXm.out.c1
                have HXm_2 := HXm.out.c2
                have HXm_l := HXm.out.lt
                go_wp2_with fail
                clear HXm_0 HXm_1 HXm_2 HXm_l
                have hb : Below w61.heap.size w61 (w61.alloc (.cells #[.int .i64 ((n : Int)), .slice X1 m.val.length Xc1, .slice X2 qq Xc2] 25)) := (Below.refl _ _).alloc (Nat.le_refl _) _
                have HXc := Lib.hid (MBox.made w61 ((n : Int)) (.slice X1 m.val.length Xc1) (.slice X2 qq Xc2))
                generalize hW : w61.alloc (.cells #[.int .i64 ((n : Int)), .slice X1 m.val.length Xc1, .slice X2 qq Xc2] 25) = w62 at *
                clear hW
                replace HB := Lib.hid (upB HB.out (Nat.le_refl _) hb)
                replace HXz := Lib.hid (upX HXz.out hb)
                replace HXm := Lib.hid (upX HXm.out hb)
                replace HMZ := Lib.hid (upM HMZ.out hb)
                replace HMC := Lib.hid (upM HMC.out hb)
                clear hb
                generalize w61.heap.size = bHXc at *
                refine (rSame_any m m _ _ w62 HMC.out (HMN.out _ HB.out)).mono ?_
                rintro e w63 ⟨rfl, hb⟩
                replace HB := Lib.hid (upB HB.out (Nat.le_refl _) hb)
                replace HXz := Lib.hid (upX HXz.out hb)
                replace HXm := Lib.hid (upX HXm.out hb)
                replace HMZ := Lib.hid (upM HMZ.out hb)
                replace HMC := Lib.hid (upM HMC.out hb)
                replace HXc := Lib.hid (upX HXc.out hb)
                clear hb
                rw [show decide (m = m) = true from decide_eq_true rfl]
                go_wp2
                go_ret
                exact ⟨rfl, HB.out⟩
set_option maxRecDepth 100000 in
theorem contract (H : Type) (enc : TypeId × Value → H) (W : World) (base : Nat) (args : Array Value) (ds gs : List (DataW H)) (before : List MemPlace)
    (hval : ∀ (j : Nat) t v, Tryd.f9.params[j]? = some t → args[j]? = some v → Value.okWide Tryd.prog W .any base t v)
    (hW : DataW.Whole enc Tryd.prog Tryd.f9.params.toList Rows.modelNamesSpec.vars false W args.toList ds gs before) (hE : Tab W) :
    Calls Tryd.prog 9 args W fun e W' => ∃ v, e = .returned v ∧ Rows.modelNamesSpec.post enc Tryd.prog Tryd.f9 false true false false W args v W' := by
  have hW' := hW
  obtain ⟨p, q, hA0, hV, rfl, hfz, hnd⟩ := hW
  have hA : DataW.TrodAll enc Tryd.prog W 0 (fun _ => true) true Tryd.f9.params.toList args.toList ds p := hA0
  rw [Tryd.params9] at hA hval
  obtain ⟨v0, vs0, d0, ds0, p0, q0, hargs, rfl, rfl, h0, r0⟩ := trodAll_cons hA
  obtain ⟨v1, vs1, d1, ds1, p1, q1, rfl, rfl, rfl, h1, r1⟩ := trodAll_cons r0
  obtain ⟨rfl, rfl, rfl⟩ := trodAll_nil r1
  obtain rfl : args = #[v0, v1] := by cases args; simp_all
  obtain ⟨rfl, rfl⟩ := trodVars_none hV
  obtain ⟨m0, w0⟩ := open_mo (hval 0 25 v0 rfl rfl) h0
  have k0 := h0
  have lt0 : ∀ x ∈ p0, x.block < W.heap.size := by obtain ⟨m, hm⟩ := k0; exact DataW.trod_lt m _ _ _ hm
  obtain ⟨A1, n1, c1, rfl⟩ := okWide_slice Tryd.underlying32 (hval 1 32 v1 rfl rfl)
  obtain ⟨l1, w1⟩ : ∃ l, IRow W A1 n1 c1 l := by
    obtain ⟨fuel, hf⟩ := h1
    exact open_is hf
  have k1 := h1
  have lt1 : ∀ x ∈ p1, x.block < W.heap.size := by obtain ⟨m, hm⟩ := k1; exact DataW.trod_lt m _ _ _ hm
  clear hA0
  have hwalk := walk m0 _ l1 A1 n1 c1 W w0 w1.1 w1.2.2 hE
  refine hwalk.mono fun e W' ⟨he, hg⟩ => ?_
  subst he
  exact ⟨_, rfl, _, _, _, [], _, [], hW', trodAll_mk1 (shut_bool Tryd.underlying4 _), (trodAll_cons_mk (Below.trod laidOut (by kernel_rfl) (of_decide_eq_true (by kernel_rfl)) k0 hg lt0) (trodAll_cons_mk (Below.trod laidOut (by kernel_rfl) (of_decide_eq_true (by kernel_rfl)) k1 hg lt1) trodAll_mk0)), rfl, hg.frame _, fun h => by cases h⟩
theorem reads (os : Os) {H : Type} (enc : TypeId × Value → H) : ∃ places, DataW.whole enc Tryd.prog ((laidW os).forCall (fun _ _ => 0) ⟨#[], #[.agg #[.int .i64 0, .slice none 0 0, .slice none 0 0], .slice none 0 0], []⟩).memory Tryd.f9.params.toList Rows.modelNamesSpec.vars false #[(.agg #[.int .i64 0, .slice none 0 0, .slice none 0 0] : Value), (.slice none 0 0 : Value)].toList 8 = some ([.agg [.lit (.int .i64 0), .nil, .nil], .nil], [], places) :=
  ⟨[], by kernel_rfl⟩
set_option maxRecDepth 100000 in
theorem lifted (os : Os) (started : os.Started) (H : Type) (enc : TypeId × Value → H) (F : Stop.Interp) :
    ReturnsInHanded {} Tryd.checked os 9 .any ((OpenSpec.ofChange Rows.modelNamesSpec).preRow enc Tryd.prog Tryd.f9 Rows.modelNamesRow.domain false Rows.modelNamesRow.laid) (((OpenSpec.ofChange Rows.modelNamesSpec).at F).post enc Tryd.prog Tryd.f9 false true false false) := by
  obtain ⟨places, hx⟩ := reads os enc
  refine returnsInHanded_of_row (C := Tryd.checked) (s := OpenSpec.ofChange Rows.modelNamesSpec) own started (by kernel_rfl) Tryd.func9
    (witness_row_atRef (enc := enc) (C := Tryd.checked) false (laidW os) #[.agg #[.int .i64 0, .slice none 0 0, .slice none 0 0], .slice none 0 0] (laidW_os os) (vars_ok os _) (heap_ok os _) (by kernel_rfl)
      (OpenSpec.preRow_of_cond 8 hx (by kernel_rfl) (fun k hk => by cases hk) (by kernel_rfl) (laid_met os _))) ?_
  intro W base args ds gs before hval hW _ _ _ hL hsh _
  exact contract H enc W base args ds gs before hval hW (env_of hL)
theorem said : Rows.ModelNamesSaid :=
  OpenClaim.holds_of_cond 9 Tryd.f9 rfl rfl rfl rfl rfl rfl rfl ⟨rfl, rfl, rfl, rfl, rfl⟩ rfl rfl rfl rfl rfl (by kernel_rfl) Tryd.func9 (by kernel_rfl)
    (of_decide_eq_true (by kernel_rfl)) (by unfold Func.isWrapper; first | (rw [if_pos (by decide +kernel)]; kernel_rfl) | (rw [if_neg (by decide +kernel)]; exact ⟨rfl, rfl⟩))
    (fun os started H enc _ F => by rw [OpenClaim.pre_eq_preRow]; exact lifted os started H enc F)
theorem plain (f : FuncId) (fn : Func) (hf : Tryd.pinned.checked.prog.funcNamed "witting/wittinglaw13.ModelNames" = some f) (hfn : Tryd.pinned.checked.prog.funcs[f]? = some fn) :
    false = Tryd.pinned.checked.prog.looks [] ∧ ∀ (j : Nat) t, fn.params[j]? = some t → Tryd.pinned.checked.prog.wantsStandIn t = false := by
  obtain rfl : f = 9 := Option.some.inj ((show Tryd.prog.funcNamed "witting/wittinglaw13.ModelNames" = some 9 by kernel_rfl).symm.trans hf) |>.symm
  obtain rfl : fn = Tryd.f9 := (Option.some.inj (Tryd.func9.symm.trans hfn)).symm
  refine ⟨no_looks, fun j t ht => ?_⟩
  rw [Tryd.params9] at ht
  have hm : t ∈ [25, 32] := by simpa using Array.mem_of_getElem? ht
  have hall : ([25, 32].all fun u => !Tryd.prog.wantsStandIn u) = true := by kernel_rfl
  exact (show Tryd.prog.wantsStandIn t = false by simpa using List.all_eq_true.1 hall t hm)
theorem card : Rows.ModelNamesCardSaid :=
  Claim7.holds_tied_plain_at .later [] _ _ _ _ said (fun _ h => by cases h) (by kernel_rfl) (fun _ h => by cases h) modelNames_row_tie rfl ⟨rfl, rfl⟩ (by kernel_rfl) rfl plain (by kernel_rfl)
#print axioms card
end Go.Proofs.YtofclgapgjcflaaDoor.modelNames
