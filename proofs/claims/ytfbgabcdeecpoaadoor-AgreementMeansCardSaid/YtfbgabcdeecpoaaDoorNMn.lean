/- Layer 6: texts joined: Yx Za Zb. -/
import Derived.Test.YtfbgabcdeecpoaaDoorNMm
/- Layer 24: an exchange by the program. -/
namespace Go.Proofs.YtfbgabcdeecpoaaDoor
open Go.RowKit Go.Proofs.Ws
set_option maxRecDepth 100000
theorem exN_last {p : Pri} (h : OkP p) (s j : Nat) (hd : ∀ i, i < j → (exN p s (i + 1)).cells ≠ (exN p s i).cells) : j ≤ 256 :=
  Nat.le_trans (exN_bound h s j hd) (blk_256 h s j)
theorem PrR.zs {W : World} {B n m d c6 : Nat} {A A6 : Option Addr} {p : Pri} (h : PrR W B (.agg #[.slice A n d, .slice A6 m c6]) p) : ZsR W B A6 p.cells.length p.cells := by
  obtain ⟨A1, c1, A2, c2, e, _, h2⟩ := h.ex
  injection e with e
  have e2 := congrArg (fun a => a[1]?) e
  simp at e2
  rw [e2.1]
  exact h2
set_option maxHeartbeats 4000000 in
theorem aExchange_ok (p : Pri) (s : Nat) (v : Value) (w : World) (hM : PrR w w.heap.size v p) (h0 : evE p s = 0) (hs : s < 18446744073709551616) (hT : Tab w) :
    Calls Tryd.prog 34 #[v, .int .u64 (s : Int)] w fun e w' => ∃ K LV, e = .returned (.tuple #[LV, .int .i64 0]) ∧ ExK p s K ∧ PrsO w' w.heap.size LV K (exN p s) ∧ Below w.heap.size w w' := by
  have hok := (evE_ok h0).1
  have hse := (evE_ok h0).2
  have HC := Lib.hid (fun (W : World) (hb : Below w.heap.size w W) => aEv_any p v s W (hM.below hb hb.size) hs)
  rw [h0] at HC
  have HCL := Lib.hid (fun (W : World) (hb : Below w.heap.size w W) => aClone_any p v W (hM.below hb hb.size) hok)
  have HRD := Lib.hid (fun (j : Nat) (u : Value) (W : World) (hb : Below w.heap.size w W) (hu : PrR W W.heap.size u (exN p s j)) => aRound_any (exN p s j) s u W hu (exN_ok hok s j) (by rw [exN_wt]; exact hse) (hT.belowAt hb hT.2))
  have HLA := Lib.hid (fun j hd => exN_last hok s j hd)
  have HOK := Lib.hid (fun j => exN_ok hok s j)
  have HRN : Hid (∀ j, rndP (exN p s j) s = exN p s (j + 1)) := Lib.hid (fun j => rfl)
  have HP0 : Hid (exN p s 0 = p) := Lib.hid rfl
  have HWL : Hid (∀ j, (exN p s j).wt.length = p.wt.length) := Lib.hid (fun j => by rw [exN_wt])
  have HCLN : Hid (∀ j, (exN p s j).cells.length = p.cells.length) := Lib.hid (fun j => exN_cells p s j)
  have hag := hok.ag
  have HEK : Hid (∀ j, (∀ i, i < j → (exN p s (i + 1)).cells ≠ (exN p s i).cells) → (exN p s (j + 1)).cells = (exN p s j).cells → ExK p s (j + 1)) := Lib.hid (fun j hd he => ⟨by omega, fun i hi => hd i (by omega), he⟩)
  obtain ⟨A1, c1, A2, c2, rfl, hv, hr⟩ := hM.ex
  have HB1 : Hid (Below w.heap.size w (w.alloc (.cells #[.slice A1 p.wt.length c1, .slice A2 p.cells.length c2] 25))) := Lib.hid ((Below.refl _ w).alloc (Nat.le_refl _) _)
  have HPB := Lib.hid (PBox.made w (.slice A1 p.wt.length c1) (.slice A2 p.cells.length c2))
  clear hM hv hr hok hse hs hT h0
  simp only [HRN.out] at HRD
  clear HRN
  generalize exN p s = X at *
  generalize ExK p s = EK at *
  generalize hn : p.wt.length = n at *
  generalize hm : p.cells.length = m at *
  go_enter Tryd.func34, Tryd.ntmps34
  go_wp2_with fail
  refine (HC.out _ HB1.out).mono ?_
  rintro e w2 ⟨rfl, hb⟩
  have HB2 := Lib.hid (belowNext HB1.out hb)
  have HP2 := Lib.hid (HPB.out.below hb HPB.out.lt)
  have b0 := HP2.out.c0
  have b1 := HP2.out.c1
  clear hb HB1 HPB
  go_wp2_with fail
  refine (HCL.out _ HB2.out).mono ?_
  rintro e w3 ⟨v', rfl, hO3, hb3⟩
  have HB3 := Lib.hid (belowNext HB2.out hb3)
  have HP3 := Lib.hid (HP2.out.below hb3 HP2.out.lt)
  have hO3 := hO3.mono (show w.heap.size + 1 ≤ w2.heap.size from HP2.out.lt)
  obtain ⟨g1, d1, A5, c5, rfl⟩ := hO3.form
  rw [hn, hm] at hO3 ⊢
  clear b0 b1 hb3 HP2
  have hba : Below w3.heap.size w3 (w3.alloc (.cells #[.slice (some ⟨g1, 0, none⟩) n d1, .slice A5 m c5] 25)) := (Below.refl _ w3).alloc (Nat.le_refl _) _
  have hszw : w.heap.size + 1 ≤ w3.heap.size := HP3.out.lt
  have HL4 : Hid (PrsO (w3.alloc (.cells #[.slice (some ⟨g1, 0, none⟩) n d1, .slice A5 m c5] 25)) (w.heap.size + 1) (.slice (some ⟨w3.heap.size, 0, none⟩) 1 1) 1 X) := Lib.hid ⟨_, World.ownsRow_lit (base := w.heap.size + 1) (e := 25) (size := 2) w3 #[.slice (some ⟨g1, 0, none⟩) n d1, .slice A5 m c5] 1 hszw (by decide) rfl, fun j hj => by
    obtain rfl : j = 0 := by omega
    exact ⟨_, _, rfl, rfl, by rw [HP0.out]; exact hO3.below hba⟩⟩
  have HB4 := Lib.hid (belowNext HB3.out hba)
  have HP4 := Lib.hid (HP3.out.below hba HP3.out.lt)
  have hlv0 : lenV (.slice (some ⟨w3.heap.size, 0, none⟩) 1 1) = 1 := rfl
  clear hba hO3 HB3 HP3 hszw
  go_wp2
  generalize w3.alloc (.cells #[.slice (some ⟨g1, 0, none⟩) n d1, .slice A5 m c5] 25) = w4 at *
  generalize (.slice (some ⟨w3.heap.size, 0, none⟩) 1 1 : Value) = LV0 at *
  go_loopw [7, 8, 9] (fun LV _ _ wr => ∃ j : Nat, j ≤ 256 ∧ lenV LV = j + 1 ∧ Hid (∀ i, i < j → (X (i + 1)).cells ≠ (X i).cells) ∧ PrsO wr (w.heap.size + 1) LV (j + 1) X ∧ Hid (Below w.heap.size w wr ∧ PBox wr w.heap.size (.slice A1 n c1) (.slice A2 m c2))) (fun LV _ _ _ => 300 - lenV LV)
  case atStart => exact ⟨0, by omega, hlv0, Lib.hid (fun i hi => absurd hi (by omega)), HL4.out, Lib.hid ⟨HB4.out, HP4.out⟩⟩
  case round =>
    clear hlv0
    obtain ⟨j, hj, hlen, HD, hL, HI⟩ := hrel
    obtain ⟨cs, hown, hel⟩ := hL
    obtain ⟨AL, cL, rfl⟩ := own_sl hown
    obtain ⟨gL, hAL⟩ : ∃ gL, AL = some ⟨gL, 0, none⟩ := by
      rcases hown.2 with ⟨_, h⟩ | ⟨g, cap, cur, h, _⟩
      · omega
      · injection h with h1
        exact ⟨g, h1⟩
    subst hAL
    obtain ⟨V1, V2, e1, e2, hO⟩ := hel j (by omega)
    obtain ⟨g2, d2, A6, c6, ev⟩ := hO.form
    injection ev with ev
    obtain rfl : V1 = .slice (some ⟨g2, 0, none⟩) (X j).wt.length d2 := by
      have := congrArg (fun a => a[0]?) ev
      simpa using this
    obtain rfl : V2 = .slice A6 (X j).cells.length c6 := by
      have := congrArg (fun a => a[1]?) ev
      simpa using this
    rw [HWL.out] at hO e1
    rw [HCLN.out] at hO e2
    clear ev
    have l0 : wr.cell? ⟨gL, j * 2, none⟩ = some (.slice (some ⟨g2, 0, none⟩) n d2) := by rw [hown.cellAt _ (by omega), e1]
    have l1 : wr.cell? ⟨gL, j * 2 + 1, none⟩ = some (.slice A6 m c6) := by rw [hown.cellAt _ (by omega), e2]
    have hprr := hO.prr (HOK.out j)
    have HOW := Lib.hid hown
    have HEL := Lib.hid hel
    have HPR := Lib.hid hprr
    have hszr : w.heap.size + 1 ≤ wr.heap.size := HI.out.2.lt
    have i1 : wrap64 (((j + 1 : Nat) : Int) - 1) = (j : Int) := IntWalk.wrap64_in _ ⟨by omega, by omega⟩ |>.trans (by omega)
    have i2 : wrap64 (((j : Nat) : Int) + 1 - 1) = (j : Int) := IntWalk.wrap64_in _ ⟨by omega, by omega⟩ |>.trans (by omega)
    clear hown hel hprr hO e1 e2
    go_wp2_with fail
    have hb5 : Below wr.heap.size wr (wr.alloc (.cells #[.slice (some ⟨g2, 0, none⟩) n d2, .slice A6 m c6] 25)) := (Below.refl _ wr).alloc (Nat.le_refl _) _
    have hB5 := belowNext HI.out.1 hb5
    have hQ5 := PBox.made wr (.slice (some ⟨g2, 0, none⟩) n d2) (.slice A6 m c6)
    have HPR5 := HPR.out.step hb5
    refine (HRD.out j _ _ hB5 HPR5).mono ?_
    rintro e w6 ⟨v6, rfl, hO6, hb6⟩
    obtain ⟨g3, d3, A7, c7, rfl⟩ := hO6.form
    rw [HWL.out, HCLN.out] at hO6
    rw [HWL.out, HCLN.out]
    have hb7 : Below w6.heap.size w6 (w6.alloc (.cells #[.slice (some ⟨g3, 0, none⟩) n d3, .slice A7 m c7] 25)) := (Below.refl _ w6).alloc (Nat.le_refl _) _
    have hQ7 := PBox.made w6 (.slice (some ⟨g3, 0, none⟩) n d3) (.slice A7 m c7)
    have hQ57 := (hQ5.below hb6 hQ5.lt).below hb7 (hQ5.below hb6 hQ5.lt).lt
    have hbr7 : Below wr.heap.size wr (w6.alloc (.cells #[.slice (some ⟨g3, 0, none⟩) n d3, .slice A7 m c7] 25)) := belowNext (belowNext hb5 hb6) hb7
    have q0 := hQ57.c1
    have q1 := hQ7.c1
    have q2 := hQ7.c0
    have hO7 := (hO6.below hb7).mono (show w.heap.size + 1 ≤ _ from Nat.le_trans hszr hb5.size)
    have HZ1 := Lib.hid ((HPR.out.step hbr7).zs)
    have HZ2 := Lib.hid ((hO7.prr (HOK.out (j + 1))).zs)
    have HBR := Lib.hid hbr7
    have HO7 := Lib.hid hO7
    have HQ7 := Lib.hid hQ7
    clear hb5 hB5 hQ5 HPR5 hb6 hO6 hb7 hQ57 hbr7 hO7 hQ7 l0 l1
    rw [HCLN.out] at HZ1 HZ2
    go_wp2_with fail
    generalize hsz6 : w6.heap.size = G6 at *
    generalize w6.alloc (.cells #[.slice (some ⟨g3, 0, none⟩) n d3, .slice A7 m c7] 25) = w7 at *
    refine (eqFuncI_any (X j).cells (X (j + 1)).cells A6 A7 m m c6 c7 w7.heap.size w7 HZ1.out HZ2.out (by unfold maxLen; omega) (by unfold maxLen; omega)).mono ?_
    rintro e w8 ⟨rfl, nq, rfl⟩
    have hb8 : Below w7.heap.size w7 (w7.drewN nq) := below_drewN (Below.refl _ _) nq
    by_cases he : (X (j + 1)).cells = (X j).cells
    · have hd : decide ((X j).cells = (X (j + 1)).cells) = true := decide_eq_true he.symm
      rw [hd]
      have HK := Lib.hid (HEK.out j HD.out he)
      have HFI : Hid (PrsO (w7.drewN nq) w.heap.size (.slice (some ⟨gL, 0, none⟩) (j + 1) cL) (j + 1) X) := Lib.hid (by
        have h1 : PrsO wr (w.heap.size + 1) (.slice (some ⟨gL, 0, none⟩) (j + 1) cL) (j + 1) X := ⟨cs, HOW.out, HEL.out⟩
        obtain ⟨cs2, h2, h3⟩ := (h1.below HBR.out).below hb8
        refine ⟨cs2, own_base h2 (Nat.le_succ _), fun i hi => ?_⟩
        obtain ⟨U1, U2, f1, f2, h4⟩ := h3 i hi
        exact ⟨U1, U2, f1, f2, h4.mono (Nat.le_succ _)⟩)
      have HBZ := Lib.hid (belowNext (belowNext HI.out.1 HBR.out) hb8)
      clear he hd hb8 q0 q1 q2
      go_wp2
      go_ret2
      exact ⟨j + 1, _, rfl, HK.out, HFI.out, HBZ.out⟩
    · have hd : decide ((X j).cells = (X (j + 1)).cells) = false := decide_eq_false (fun e => he e.symm)
      rw [hd]
      have HD2 : Hid (∀ i, i < j + 1 → (X (i + 1)).cells ≠ (X i).cells) := Lib.hid (fun i hi => by
        by_cases e : i = j
        · rw [e]; exact he
        · exact HD.out i (by omega))
      have hj2 := HLA.out (j + 1) HD2.out
      clear he hd hb8
      have hown : (w7.drewN nq).ownsRow (w.heap.size + 1) 25 2 (.slice (some ⟨gL, 0, none⟩) (j + 1) cL) (j + 1) cs := own_keep1 HOW.out (fun g hg => HBR.out.block g (HOW.out.lt g hg).2)
      have hsz8 : w.heap.size + 1 ≤ (w7.drewN nq).heap.size := Nat.le_trans hszr HBR.out.size
      obtain ⟨i0, hi, hz0, hz1, hz2⟩ := info_parts Tryd.infoPr
      have q0' : (w7.drewN nq).cell? ⟨G6, 0, none⟩ = some (.slice (some ⟨g3, 0, none⟩) n d3) := q2
      have q1' : (w7.drewN nq).cell? ⟨G6, 1, none⟩ = some (.slice A7 m c7) := q1
      have HO8 : Hid (PrO (w7.drewN nq) (w.heap.size + 1) (.agg #[.slice (some ⟨g3, 0, none⟩) n d3, .slice A7 m c7]) (X (j + 1))) := Lib.hid (HO7.out.below (below_drewN (Below.refl _ _) nq))
      have HEL8 : Hid (∀ i, i < j + 1 → ∃ V1 V2, cs[i * 2]? = some V1 ∧ cs[i * 2 + 1]? = some V2 ∧ PrO (w7.drewN nq) (w.heap.size + 1) (.agg #[V1, V2]) (X i)) := Lib.hid (fun i hi => by
        obtain ⟨U1, U2, f1, f2, h4⟩ := HEL.out i hi
        exact ⟨U1, U2, f1, f2, (h4.below HBR.out).below (below_drewN (Below.refl _ _) nq)⟩)
      have HB8 := Lib.hid (belowNext (belowNext HI.out.1 HBR.out) (below_drewN (Below.refl w7.heap.size w7) nq))
      have HP8 := Lib.hid ((HI.out.2.below HBR.out HI.out.2.lt).below (below_drewN (Below.refl w7.heap.size w7) nq) (HI.out.2.below HBR.out HI.out.2.lt).lt)
      clear q0 q1 q2
      generalize w7.drewN nq = w8 at *
      go_wp2_with (at_builtin; refine wpList_append_own _ rfl _ _ 56 rfl (w.heap.size + 1) 25 i0 (.agg #[.slice none 0 0, .slice none 0 0]) 2 48 Tryd.underlying56 hi hz0 hz1 hz2 rfl (by decide) _ _ _ rfl (hown.alloc _) ⟨w8.heap.size, 0, none⟩ 1 1 [.slice (some ⟨g3, 0, none⟩) n d3, .slice A7 m c7] rfl rfl ?c1 ?c2 ?c3 ?c4 ?c5 ?_)
      case c1 =>
        intro i u hi
        match i, hi with
        | 0, hi => simp at hi; subst hi; simp [Addr.add]
        | 1, hi => simp at hi; subst hi; simp [Addr.add]
      case c2 => intro u hu; simp at hu; rcases hu with rfl | rfl <;> rfl
      case c3 => unfold maxLen; omega
      case c4 => omega
      case c5 => simp; omega
      · intro v' w9 hown' hgrow _
        have hL9 := Lib.hid (PrsO.snoc hown HEL8.out HO8.out hgrow hown')
        have HP9 : Hid (PBox w9 w.heap.size (.slice A1 n c1) (.slice A2 m c2)) := Lib.hid (by
          have hb9 : Below (w.heap.size + 1) w8 w9 := ((Below.refl _ w8).alloc hsz8 _).grown hgrow (by simp; omega) (fun i hi => (hown.lt i hi).1)
          exact HP8.out.below hb9 (Nat.lt_succ_self _))
        have HB9 := Lib.hid ((HB8.out.alloc HB8.out.size _).grown hgrow (by have := HB8.out.size; simp; omega) (fun i hi => by have := (hown.lt i hi).1; omega))
        obtain ⟨A9, c9, rfl⟩ := own_sl hown'
        have hl9 : lenV (.slice A9 (j + 1 + 1) c9) = j + 1 + 1 := rfl
        clear hown hown' hgrow hi hz0 hz1 hz2 q0' q1'
        go_wp2
        go_roundw
        case rel => exact ⟨j + 1, hj2, hl9, HD2, hL9.out, Lib.hid ⟨HB9.out, HP9.out⟩⟩
        case measure => simp only [lenV]; omega
end Go.Proofs.YtfbgabcdeecpoaaDoor
/- Layer 24: the reference's Same and Split of partitions. -/
namespace Go.Proofs.YtfbgabcdeecpoaaDoor
open Go.RowKit Go.Proofs.Ws
set_option maxRecDepth 100000
set_option maxHeartbeats 2000000 in
theorem rSame03_any (a b : List Int) (A A2 : Option Addr) (n m c c2 B : Nat) (w : World) (hR : Reads w B 1 A n (ints a)) (hR2 : Reads w B 1 A2 m (ints b)) (hm : n ≤ maxLen) (hm2 : m ≤ maxLen) :
    Calls Tryd.prog 62 #[.slice A n c, .slice A2 m c2] w fun e w' => e = .returned (.bool (decide (a = b))) ∧ ∃ q, w' = w.drewN q := by
  unfold maxLen at hm hm2
  have hl := hR.int_len
  have hl2 := hR2.int_len
  have HL := Lib.hid hl
  have HL2 := Lib.hid hl2
  have HR := Lib.hid hR
  have HR2 := Lib.hid hR2
  by_cases hnm : n = m
  · subst hnm
    have hne : ((n : Int) != (n : Int)) = false := by simp
    clear hR hR2 hl hl2
    go_enter Tryd.func62, Tryd.ntmps62
    go_wp2
    go_loopw [5, 13] (fun _ i wr => ∃ k q : Nat, k ≤ n ∧ i = .int .i64 k ∧ Hid (∀ j, j < k → a.getD j 0 = b.getD j 0) ∧ wr = w.drewN q) (fun _ i _ => n - (intOf i).toNat)
    case atStart => exact ⟨0, 0, Nat.zero_le _, rfl, Lib.hid (fun j hj => absurd hj (by omega)), rfl⟩
    case round =>
      obtain ⟨k, q, hk, rfl, HF, rfl⟩ := hrel
      by_cases hlt : k < n
      · obtain ⟨ad, rfl, hb, hc⟩ := HR.out.int_at hlt
        obtain ⟨ad2, rfl, hb2, hc2⟩ := HR2.out.int_at hlt
        obtain ⟨x, hx⟩ : ∃ x, a.getD k 0 = x := ⟨_, rfl⟩
        obtain ⟨y, hy⟩ : ∃ y, b.getD k 0 = y := ⟨_, rfl⟩
        rw [hx] at hc
        rw [hy] at hc2
        have HX := Lib.hid hx
        have HY := Lib.hid hy
        clear hx hy
        by_cases he : x = y
        · have HF2 := Lib.hid (fun j (hj : j < k + 1) => show a.getD j 0 = b.getD j 0 from by
            by_cases e : j = k
            · subst e; rw [HX.out, HY.out]; exact he
            · exact HF.out j (by omega))
          have hq : (x != y) = false := by rw [he]; simp
          clear he HF
          go_wp2
          go_quiet (fail)
          go_wp2
          go_roundw
          case rel => exact ⟨k + 1, q + nq, by omega, by go_num, HF2, by first | rfl | rw [World.drewN_drewN]⟩
          case measure => simp [intOf]; omega
        · have HD : Hid (decide (a = b) = false) := Lib.hid (decide_eq_false (fun e => he (by rw [← HX.out, ← HY.out, e])))
          have hq : (x != y) = true := by rw [bne_iff_ne]; exact he
          clear he HF
          go_wp2
          go_quiet (fail)
          go_wp2
          go_ret
          exact ⟨ret_bool HD.out.symm, ⟨q + nq, by first | rfl | rw [World.drewN_drewN]⟩⟩
      · have hkn : k = n := by omega
        subst hkn
        have HD : Hid (decide (a = b) = true) := Lib.hid (decide_eq_true (eqZ_at (HL.out.trans HL2.out.symm) (fun j hj => HF.out j (by have := HL.out; omega))))
        clear HF
        go_wp2
        go_ret
        exact ⟨ret_bool HD.out.symm, ⟨q, rfl⟩⟩
  · have HD : Hid (decide (a = b) = false) := Lib.hid (decide_eq_false (fun e => hnm (by rw [← hl, ← hl2, e])))
    have hne : ((n : Int) != (m : Int)) = true := by rw [bne_iff_ne]; omega
    clear hR hR2 hl hl2 hnm
    go_enter Tryd.func62, Tryd.ntmps62
    go_wp2
    go_ret
    exact ⟨ret_bool HD.out.symm, ⟨0, rfl⟩⟩
/-- the least place with equal keys among the last d -/
def lowS (a b : List Int) (i : Nat) : Nat → Nat
  | 0 => i
  | d + 1 => if sameAt a b i (i - d) = true then i - d else lowS a b i d
theorem lowS_spec (a b : List Int) (i : Nat) : ∀ d, d ≤ i + 1 → sameAt a b i (lowS a b i d) = true ∧ lowS a b i d ≤ i ∧ ∀ j, i < j + d → j < lowS a b i d → sameAt a b i j = false
  | 0, _ => ⟨sameAt_self a b i, Nat.le_refl _, fun j h1 h2 => by unfold lowS at h2; omega⟩
  | d + 1, hd => by
    obtain ⟨h1, h2, h3⟩ := lowS_spec a b i d (by omega)
    unfold lowS
    by_cases e : sameAt a b i (i - d) = true
    · rw [if_pos e]
      exact ⟨e, by omega, fun j h4 h5 => by omega⟩
    · rw [if_neg e]
      refine ⟨h1, h2, fun j h4 h5 => ?_⟩
      by_cases e2 : j = i - d
      · rw [e2]; simpa using e
      · exact h3 j (by omega) h5
theorem lowS_first (a b : List Int) (i : Nat) : lowS a b i (i + 1) = firstAt a b i := by
  obtain ⟨h1, _, h3⟩ := lowS_spec a b i (i + 1) (Nat.le_refl _)
  exact (firstAt_unique a b i _ h1 (fun j hj => h3 j (by omega) hj)).symm
theorem canonL_take (a b : List Int) {k : Nat} (h : k < a.length) : (canonL a b).take (k + 1) = (canonL a b).take k ++ [(firstAt a b k : Int)] := by
  have hl : (canonL a b).length = a.length := canonL_len rfl
  rw [List.take_succ_eq_append_getElem (by rw [hl]; exact h)]
  congr 1
  have := canonL_getD (a := a) (b := b) rfl h
  rw [List.getD_eq_getElem?_getD, List.getElem?_eq_getElem (by rw [hl]; exact h)] at this
  rw [← this]; rfl
theorem ints_appZ (l : List Int) (x : Int) : ints (l ++ [x]) = ints l ++ [.int .i64 x] := by simp [ints]
theorem OneZ.of_own {W : World} {base k : Nat} {v : Value} {l : List Int} (h : W.ownsRow base 3 1 v k (ints l)) (hl : l.length = k) (hk : 1 ≤ k) : OneZ W base v l := by
  subst hl
  have hv : v ≠ .slice none 0 0 := fun e => by
    rcases h.2 with ⟨_, h0⟩ | ⟨g, cap, cur, h1, _⟩
    · omega
    · rw [h1] at e; cases e
  obtain ⟨g, c, e, hb, hH, _⟩ := HoldsJ.of_own h hv
  exact ⟨g, c, e, hb, hH⟩
set_option maxHeartbeats 4000000 in
theorem rCanon_any (a b : List Int) (A A2 : Option Addr) (n c c2 : Nat) (w : World) (hR : Reads w w.heap.size 1 A n (ints a)) (hR2 : Reads w w.heap.size 1 A2 n (ints b)) (hn : n ≤ 64) (hpos : 1 ≤ n) :
    Calls Tryd.prog 87 #[.slice A n c, .slice A2 n c2] w fun e w' => ∃ v', e = .returned v' ∧ OneZ w' w.heap.size v' (canonL a b) ∧ Below w.heap.size w w' := by
  have hl := hR.int_len
  have HR := Lib.hid hR
  have HR2 := Lib.hid hR2
  have HLN : Hid ((canonL a b).length = n) := Lib.hid (by rw [← hl]; exact canonL_len rfl)
  have HTK := Lib.hid (fun k (hk : k < n) => canonL_take a b (k := k) (by omega))
  obtain ⟨i0, hi, hz0, hz1, hz2⟩ := info_parts Tryd.infoI
  clear hR hR2 hl
  go_enter Tryd.func87, Tryd.ntmps87
  go_wp2
  go_loopw [5, 6, 7, 8, 11] (fun r _ _ _ i wr => ∃ k : Nat, k ≤ n ∧ i = .int .i64 (k : Int) ∧ wr.ownsRow w.heap.size 3 1 r k (ints ((canonL a b).take k)) ∧ Hid (Below w.heap.size w wr)) (fun _ _ _ _ i _ => n - (intOf i).toNat)
  case atStart => exact ⟨0, Nat.zero_le _, rfl, World.ownsRow_nil _ _ _ _, Lib.hid (Below.refl _ _)⟩
  case round =>
    obtain ⟨k, hk, rfl, hown, HB⟩ := hrel
    by_cases hlt : k < n
    · have HOW := Lib.hid hown
      clear hown
      go_wp2
      rename World => wo
      go_loopw [7, 8] (fun low j wr => ∃ d : Nat, d ≤ k + 1 ∧ j = .int .i64 ((k : Int) - (d : Int)) ∧ low = .int .i64 ((lowS a b k d : Nat) : Int) ∧ ∃ q, wr = wo.drewN q) (fun _ j _ => ((intOf j) + 1).toNat)
      case atStart => exact ⟨0, Nat.zero_le _, by simp, rfl, 0, rfl⟩
      case round =>
        obtain ⟨d, hd, rfl, rfl, q, rfl⟩ := hrel
        by_cases hlt2 : d ≤ k
        · obtain ⟨j, hj⟩ : ∃ j : Nat, k - d = j := ⟨_, rfl⟩
          have ej : (k : Int) - (d : Int) = (j : Int) := by omega
          have HJ := Lib.hid ej
          have hjn : j < n := by omega
          have HS : Hid (lowS a b k (d + 1) = if sameAt a b k j = true then j else lowS a b k d) := Lib.hid (by rw [← hj]; rfl)
          have hrd : ∀ p, (wo.drewN p).heap.size = wo.heap.size := fun p => rfl
          obtain ⟨ad, rfl, _, y1⟩ := (HR.out.below HB.out).int_at hjn
          obtain ⟨ad', e1, _, y2⟩ := (HR.out.below HB.out).int_at hlt
          obtain ⟨bd, rfl, _, z1⟩ := (HR2.out.below HB.out).int_at hjn
          obtain ⟨bd', e2, _, z2⟩ := (HR2.out.below HB.out).int_at hlt
          injection e1 with e1
          subst e1
          injection e2 with e2
          subst e2
          have hwk : wrap64 ((j : Int) - 1) = (j : Int) - 1 := IntWalk.wrap64_in _ ⟨by omega, by omega⟩
          have hj0 : decide ((0 : Int) ≤ (j : Int)) = true := decide_eq_true (by omega)
          have HJ2 : Hid ((j : Int) - 1 = (k : Int) - ((d + 1 : Nat) : Int)) := Lib.hid (by omega)
          have HSA := Lib.hid (sameAt_iff a b k j)
          rw [ej]
          clear ej hj
          generalize a.getD j 0 = a1 at *
          generalize a.getD k 0 = a2 at *
          generalize b.getD j 0 = b1 at *
          generalize b.getD k 0 = b2 at *
          by_cases h1 : a1 = a2
          · have g1 : (a1 == a2) = true := by rw [h1]; simp
            by_cases h2 : b1 = b2
            · have g2 : (b1 == b2) = true := by rw [h2]; simp
              have HS2 : Hid (lowS a b k (d + 1) = j) := Lib.hid (by rw [HS.out, if_pos (HSA.out.2 ⟨h1, h2⟩)])
              clear h1 h2
              go_wp2
              go_quiet (fail)
              go_wp2
              go_roundw
              case rel => exact ⟨d + 1, by omega, by rw [HJ2.out], by rw [HS2.out], q + nq, by first | rfl | rw [World.drewN_drewN]⟩
              case measure => first | (simp [intOf]; done) | (simp [intOf]; omega)
            · have g2 : (b1 == b2) = false := by rw [beq_eq_false_iff_ne]; exact h2
              have HS2 : Hid (lowS a b k (d + 1) = lowS a b k d) := Lib.hid (by rw [HS.out, if_neg (fun h => h2 (HSA.out.1 h).2)])
              clear h1 h2
              go_wp2
              go_quiet (fail)
              go_wp2
              go_roundw
              case rel => exact ⟨d + 1, by omega, by rw [HJ2.out], by rw [HS2.out], q + nq, by first | rfl | rw [World.drewN_drewN]⟩
              case measure => first | (simp [intOf]; done) | (simp [intOf]; omega)
          · have g1 : (a1 == a2) = false := by rw [beq_eq_false_iff_ne]; exact h1
            have HS2 : Hid (lowS a b k (d + 1) = lowS a b k d) := Lib.hid (by rw [HS.out, if_neg (fun h => h1 (HSA.out.1 h).1)])
            clear h1
            go_wp2
            go_quiet (fail)
            go_wp2
            go_roundw
            case rel => exact ⟨d + 1, by omega, by rw [HJ2.out], by rw [HS2.out], q + nq, by first | rfl | rw [World.drewN_drewN]⟩
            case measure => first | (simp [intOf]; done) | (simp [intOf]; omega)
        · obtain rfl : d = k + 1 := by omega
          have ej : (k : Int) - ((k + 1 : Nat) : Int) = -1 := by omega
          rw [ej, lowS_first]
          have HT := Lib.hid (HTK.out k hlt)
          have hown : (wo.drewN q).ownsRow w.heap.size 3 1 _ k (ints ((canonL a b).take k)) := HOW.out
          have hsz := HB.out.size
          have HB2 : Hid (Below w.heap.size w (wo.drewN q)) := Lib.hid (below_drewN HB.out q)
          have hsz2 : w.heap.size ≤ (wo.drewN q).heap.size := hsz
          clear ej
          generalize firstAt a b k = fa at *
          generalize wo.drewN q = w5 at *
          go_wp2_with (at_builtin; refine wpList_append_own _ rfl _ _ 22 rfl w.heap.size 3 i0 (.int .i64 0) 1 8 Tryd.underlying22 hi hz0 hz1 hz2 rfl (by decide) _ _ _ rfl (hown.alloc _) ⟨w5.heap.size, 0, none⟩ 1 1 [.int .i64 (fa : Int)] rfl rfl ?c1 ?c2 ?c3 ?c4 ?c5 ?_)
          case c1 =>
            intro j u hj
            match j, hj with
            | 0, hj => simp at hj; subst hj; simp [Addr.add]
          case c2 => intro u hu; simp at hu; subst hu; rfl
          case c3 => unfold maxLen; omega
          case c4 => omega
          case c5 => simp; omega
          · intro v' w6 hown' hgrow _
            have HB6 := Lib.hid ((HB2.out.alloc hsz2 _).grown hgrow (by simp; omega) (fun j hj => (hown.lt j hj).1))
            have HO6 : Hid (w6.ownsRow w.heap.size 3 1 v' (k + 1) (ints ((canonL a b).take (k + 1)))) := Lib.hid (by rw [HT.out, ints_appZ]; exact hown')
            clear hgrow hown hown'
            go_wp2
            go_roundw
            case rel => exact ⟨k + 1, by omega, by go_num, HO6.out, HB6⟩
            case measure => first | (simp [intOf]; done) | (simp [intOf]; omega)
    · obtain rfl : k = n := by omega
      rw [List.take_of_length_le (by rw [HLN.out]; exact Nat.le_refl _)] at hown
      have hz : OneZ wr w.heap.size _ (canonL a b) := OneZ.of_own hown HLN.out hpos
      have HZ := Lib.hid hz
      clear hz hown
      go_wp2
      go_ret
      exact ⟨_, rfl, HZ.out, HB.out⟩
end Go.Proofs.YtfbgabcdeecpoaaDoor
/- Layer 24: Split and keys by the reference. -/
namespace Go.Proofs.YtfbgabcdeecpoaaDoor
open Go.RowKit Go.Proofs.Ws
set_option maxRecDepth 100000
set_option maxHeartbeats 2000000 in
theorem rSplit_any (a b : List Int) (A A2 : Option Addr) (n c c2 : Nat) (w : World) (hR : Reads w w.heap.size 1 A n (ints a)) (hR2 : Reads w w.heap.size 1 A2 n (ints b)) (hn : n ≤ 64) (hpos : 1 ≤ n) (h0 : partErr a = 0) :
    Calls Tryd.prog 81 #[.slice A n c, .slice A2 n c2] w fun e w' => ∃ v', e = .returned (.tuple #[v', .int .i64 0]) ∧ OneZ w' w.heap.size v' (canonL a b) ∧ Below w.heap.size w w' := by
  have HC := Lib.hid (pRefCheck_any a A n c _ w hR (by unfold maxLen; omega))
  rw [h0] at HC
  have HN := Lib.hid (rCanon_any a b A A2 n c c2 w hR hR2 hn hpos)
  clear hR hR2 h0
  go_enter Tryd.func81, Tryd.ntmps81
  go_wp2_with fail
  refine (HC.out).mono ?_
  rintro e w' ⟨rfl, rfl⟩
  go_wp2_with fail
  refine (HN.out).mono ?_
  rintro e w2 ⟨v', rfl, hO, hb⟩
  have HO := Lib.hid hO
  have HB := Lib.hid hb
  clear hO hb
  go_wp2
  go_ret2
  exact ⟨v', rfl, HO.out, HB.out⟩
theorem keysF_take {l : List (Nat × Nat)} {k : Nat} (h : k < l.length) : (keysF l).take (k + 1) = (keysF l).take k ++ [(ixF l (l.getD k (0, 0)) : Int)] := by
  rw [List.take_succ_eq_append_getElem (by rw [keysF_len]; exact h)]
  congr 1
  have := keysF_at h
  rw [List.getD_eq_getElem?_getD, List.getElem?_eq_getElem (by rw [keysF_len]; exact h)] at this
  rw [← this]; rfl
set_option maxHeartbeats 4000000 in
theorem rKeys_any (p : Pri) (v : Value) (a s : Nat) (w : World) (hM : PrR w w.heap.size v p) (h0 : evE p s = 0) (ha : a < p.cells.length) (hs : s < 18446744073709551616) :
    Calls Tryd.prog 82 #[v, .int .i64 (a : Int), .int .u64 (s : Int)] w fun e w' => ∃ v', e = .returned v' ∧ OneZ w' w.heap.size v' (tellK p a s) ∧ Below w.heap.size w w' := by
  have hok := (evE_ok h0).1
  have hle := hok.le
  have hpos := hok.pos
  have HPO := Lib.hid (fun (W : World) (hb : Below w.heap.size w W) => rPostsE_ok p v a s W (hM.below hb hb.size) h0 ha hs)
  have HLN := Lib.hid (postL_len p a s)
  have HTK : Hid (tellK p a s = keysF (postL p a s)) := Lib.hid rfl
  obtain ⟨i0, hi, hz0, hz1, hz2⟩ := info_parts Tryd.infoI
  obtain ⟨A1, c1, A2, c2, rfl, hv, hr⟩ := hM.ex
  have HB1 : Hid (Below w.heap.size w (w.alloc (.cells #[.slice A1 p.wt.length c1, .slice A2 p.cells.length c2] 25))) := Lib.hid ((Below.refl _ w).alloc (Nat.le_refl _) _)
  clear hM hv hr hok h0 ha hs
  rw [HTK.out]
  clear HTK
  generalize postL p a s = L at *
  generalize p.wt.length = n at *
  generalize p.cells.length = m at *
  have HKL : Hid ((keysF L).length = n) := Lib.hid (by rw [keysF_len, HLN.out])
  have HT := Lib.hid (fun k (hk : k < n) => keysF_take (l := L) (k := k) (by rw [HLN.out]; exact hk))
  have HIX := Lib.hid (fun k (hk : k < n) => ixF_at (l := L) (x := L.getD k (0, 0)) (getD_memP (by rw [HLN.out]; exact hk)))
  have HIB := Lib.hid (fun (x : Nat × Nat) (j : Nat) (h : j < ixF L x) => ixF_below h)
  go_enter Tryd.func82, Tryd.ntmps82
  go_wp2_with fail
  refine (HPO.out _ HB1.out).mono ?_
  rintro e w2 ⟨A, c, rfl, hrd, hb⟩
  rw [HLN.out] at hrd
  rw [HLN.out]
  have HB2 := Lib.hid (belowNext HB1.out hb)
  have HRD := Lib.hid hrd
  clear hb hrd
  go_wp2
  go_loopw [9, 10, 11] (fun o i _ wr => ∃ k : Nat, k ≤ n ∧ i = .int .i64 (k : Int) ∧ wr.ownsRow w2.heap.size 3 1 o k (ints ((keysF L).take k)) ∧ Hid (Below w2.heap.size w2 wr)) (fun _ i _ _ => n - (intOf i).toNat)
  case atStart => exact ⟨0, Nat.zero_le _, rfl, World.ownsRow_nil _ _ _ _, Lib.hid (Below.refl _ _)⟩
  case round =>
    obtain ⟨k, hk, rfl, hown, HI⟩ := hrel
    by_cases hlt : k < n
    · have HOW := Lib.hid hown
      have hix := HIX.out k hlt
      have hixn : ixF L (L.getD k (0, 0)) < n := by rw [HLN.out] at hix; exact hix.1
      have HIXE := Lib.hid hix.2
      have HTk := Lib.hid (HT.out k hlt)
      have HIBk := Lib.hid (fun j => HIB.out (L.getD k (0, 0)) j)
      clear hown hix
      obtain ⟨x, hx⟩ : ∃ x, L.getD k (0, 0) = x := ⟨_, rfl⟩
      rw [hx] at hixn HIXE HTk HIBk
      have HX := Lib.hid hx
      clear hx
      generalize ixF L x = ix at *
      go_wp2
      rename World => wo
      go_loopw [11] (fun j wr => ∃ t : Nat, t ≤ ix ∧ j = .int .i64 (t : Int) ∧ ∃ q, wr = wo.drewN q) (fun j _ => n - (intOf j).toNat)
      case atStart => exact ⟨0, Nat.zero_le _, rfl, 0, rfl⟩
      case round =>
        obtain ⟨t, ht, rfl, q, rfl⟩ := hrel
        obtain ⟨b1, o1, rfl, _, y1, y2⟩ := (HRD.out.below HI.out).fr_at (show t < n by omega)
        obtain ⟨b2, o2, e2, _, z1, z2⟩ := (HRD.out.below HI.out).fr_at hlt
        injection e2 with e2
        injection e2 with e2 e3 _
        subst e2
        subst e3
        rw [HX.out] at z1 z2
        obtain ⟨y, hy⟩ : ∃ y, L.getD t (0, 0) = y := ⟨_, rfl⟩
        rw [hy] at y1 y2
        have HY := Lib.hid hy
        clear hy
        by_cases he : t = ix
        · have hyx : y = x := by rw [← HY.out, he]; exact HIXE.out
          have hq : eqQ y x = true := by unfold eqQ; exact decide_eq_true hyx
          have hE := neqFr y x
          rw [hq] at hE
          subst he
          have hown : (wo.drewN q).ownsRow w2.heap.size 3 1 _ k (ints ((keysF L).take k)) := HOW.out
          clear hyx
          go_wp2
          go_quiet (fail)
          have hown : ((wo.drewN q).drewN nq).ownsRow w2.heap.size 3 1 _ k (ints ((keysF L).take k)) := HOW.out
          have HB5 : Hid (Below w2.heap.size w2 ((wo.drewN q).drewN nq)) := Lib.hid (below_drewN (below_drewN HI.out q) nq)
          have hsz5 : w2.heap.size ≤ ((wo.drewN q).drewN nq).heap.size := HI.out.size
          generalize (wo.drewN q).drewN nq = w5 at *
          clear y1 y2 z1 z2
          go_wp2_with (at_builtin; refine wpList_append_own _ rfl _ _ 22 rfl w2.heap.size 3 i0 (.int .i64 0) 1 8 Tryd.underlying22 hi hz0 hz1 hz2 rfl (by decide) _ _ _ rfl (hown.alloc _) ⟨w5.heap.size, 0, none⟩ 1 1 [.int .i64 (t : Int)] rfl rfl ?c1 ?c2 ?c3 ?c4 ?c5 ?_)
          case c1 =>
            intro j u hj
            match j, hj with
            | 0, hj => simp at hj; subst hj; simp [Addr.add]
          case c2 => intro u hu; simp at hu; subst hu; rfl
          case c3 => unfold maxLen; omega
          case c4 => omega
          case c5 => simp; omega
          · intro v' w6 hown' hgrow _
            have hb6 : Below w2.heap.size w2 w6 := (HB5.out.alloc hsz5 _).grown hgrow (by simp; omega) (fun j hj => (hown.lt j hj).1)
            have HO6 : Hid (w6.ownsRow w2.heap.size 3 1 v' (k + 1) (ints ((keysF L).take (k + 1)))) := Lib.hid (by rw [HTk.out, ints_appZ]; exact hown')
            have HB6 := Lib.hid hb6
            clear hgrow hown hown' hb6
            go_wp2
            go_roundw
            case rel => exact ⟨k + 1, by omega, by go_num, HO6.out, HB6⟩
            case measure => first | (simp [intOf]; done) | (simp [intOf]; omega)
        · have hyx : ¬ y = x := by rw [← HY.out]; exact HIBk.out t (by omega)
          have hq : eqQ y x = false := by unfold eqQ; exact decide_eq_false hyx
          have hE := neqFr y x
          rw [hq] at hE
          have ht2 : t + 1 ≤ ix := by omega
          clear hyx he
          go_wp2
          go_quiet (fail)
          go_wp2
          go_roundw
          case rel => exact ⟨t + 1, ht2, by go_num, q + nq, by first | rfl | rw [World.drewN_drewN]⟩
          case measure => first | (simp [intOf]; done) | (simp [intOf]; omega)
    · obtain rfl : k = n := by omega
      rw [List.take_of_length_le (by rw [HKL.out]; exact Nat.le_refl _)] at hown
      have hz : OneZ wr w.heap.size _ (keysF L) := (OneZ.of_own hown HKL.out hpos).mono HB2.out.size
      have HZ := Lib.hid hz
      clear hz hown
      go_wp2
      go_ret
      exact ⟨_, rfl, HZ.out, belowNext HB2.out HI.out⟩
end Go.Proofs.YtfbgabcdeecpoaaDoor
