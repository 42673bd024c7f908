/- Layer 6: texts joined: Zg Zh Zi. -/
import Derived.Test.YtfbgabcdeecpoaaDoorNMb
import Derived.Test.YtfbgabcdeecpoaaDoorNMc
import Derived.Test.YtfbgabcdeecpoaaDoorNMn
import Derived.Test.YtfbgabcdeecpoaaDoorNMq
/- Layer 24: an exchange by the reference. -/
namespace Go.Proofs.YtfbgabcdeecpoaaDoor
open Go.RowKit Go.Proofs.Ws
set_option maxRecDepth 100000
theorem evE_of {p : Pri} {s : Nat} (h : OkP p) (hs : s < 2 ^ p.wt.length) : evE p s = 0 := by
  unfold evE
  rw [if_pos h.chk, if_pos hs]
theorem wrapS_in (j : Nat) (h : j ≤ 256) : IntKind.i64.wrap (j : Int) = (j : Int) := by
  rw [IntWalk.i64_left]
  exact IntWalk.wrap64_in _ ⟨by omega, by omega⟩
theorem ex_same (p : Pri) (s j : Nat) : exN p s (j + 1) = exN p s j ↔ (exN p s (j + 1)).cells = (exN p s j).cells :=
  ⟨fun h => by rw [h], fun h => pri_eq (by rw [exN_wt, exN_wt]) h⟩
set_option maxHeartbeats 4000000 in
theorem rExchange_ok (p : Pri) (s : Nat) (v : Value) (w : World) (hM : PrR w w.heap.size v p) (h0 : evE p s = 0) (hs : s < 18446744073709551616) :
    Calls Tryd.prog 35 #[v, .int .u64 (s : Int)] w fun e w' => ∃ K LV, e = .returned (.tuple #[LV, .int .i64 0]) ∧ ExK p s K ∧ PrsO w' w.heap.size LV K (exN p s) ∧ Below w.heap.size w w' := by
  have hok := (evE_ok h0).1
  have hse := (evE_ok h0).2
  have HC := Lib.hid (fun (W : World) (hb : Below w.heap.size w W) => rEv_any p v s W (hM.below hb hb.size) hs)
  rw [h0] at HC
  have HCL := Lib.hid (fun (W : World) (hb : Below w.heap.size w W) => rCopy_any p v W (hM.below hb hb.size) hok)
  have HRD : Hid (∀ (j : Nat) (u : Value) (W : World), Below w.heap.size w W → PrR W W.heap.size u (exN p s j) → Calls Tryd.prog 32 #[u, .int .u64 (s : Int)] W fun e w' => ∃ v', e = .returned (.tuple #[v', .int .i64 0]) ∧ PrO w' W.heap.size v' (exN p s (j + 1)) ∧ Below W.heap.size W w') := Lib.hid (fun j u W hb hu => by
    have h0' : evE (exN p s j) s = 0 := evE_of (exN_ok hok s j) (by rw [exN_wt]; exact hse)
    have h := rRoundE_any (exN p s j) s u W hu hs
    have hV : rndV (exN p s j) s = exN p s (j + 1) := by unfold rndV; rw [if_pos h0']; rfl
    rw [hV, h0'] at h
    exact h.mono fun e w' ⟨v', e1, _, h3, h4⟩ => ⟨v', e1, h3 rfl, h4⟩)
  have HLA := Lib.hid (fun j hd => exN_last hok s j hd)
  have HOK := Lib.hid (fun j => exN_ok hok s j)
  have HES := Lib.hid (fun j => ex_same p s j)
  have HP0 : Hid (exN p s 0 = p) := Lib.hid rfl
  have HWL : Hid (∀ j, (exN p s j).wt.length = p.wt.length) := Lib.hid (fun j => by rw [exN_wt])
  have HCLN : Hid (∀ j, (exN p s j).cells.length = p.cells.length) := Lib.hid (fun j => exN_cells p s j)
  have hag := hok.ag
  have HEK : Hid (∀ j, (∀ i, i < j → (exN p s (i + 1)).cells ≠ (exN p s i).cells) → (exN p s (j + 1)).cells = (exN p s j).cells → ExK p s (j + 1)) := Lib.hid (fun j hd he => ⟨by omega, fun i hi => hd i (by omega), he⟩)
  obtain ⟨A1, c1, A2, c2, rfl, hv, hr⟩ := hM.ex
  have HB1 : Hid (Below w.heap.size w (w.alloc (.cells #[.slice A1 p.wt.length c1, .slice A2 p.cells.length c2] 25))) := Lib.hid ((Below.refl _ w).alloc (Nat.le_refl _) _)
  have HPB := Lib.hid (PBox.made w (.slice A1 p.wt.length c1) (.slice A2 p.cells.length c2))
  clear hM hv hr hok hse hs h0
  generalize exN p s = X at *
  generalize ExK p s = EK at *
  generalize hn : p.wt.length = n at *
  generalize hm : p.cells.length = m at *
  go_enter Tryd.func35, Tryd.ntmps35
  go_wp2_with fail
  refine (HC.out _ HB1.out).mono ?_
  rintro e w2 ⟨rfl, hb⟩
  have HB2 := Lib.hid (belowNext HB1.out hb)
  have HP2 := Lib.hid (HPB.out.below hb HPB.out.lt)
  have b0 := HP2.out.c0
  have b1 := HP2.out.c1
  clear hb HB1 HPB
  go_wp2_with fail
  refine (HCL.out _ HB2.out).mono ?_
  rintro e w3 ⟨v', rfl, hO3, hb3⟩
  have HB3 := Lib.hid (belowNext HB2.out hb3)
  have HP3 := Lib.hid (HP2.out.below hb3 HP2.out.lt)
  have hO3 := hO3.mono (show w.heap.size + 1 ≤ w2.heap.size from HP2.out.lt)
  obtain ⟨g1, d1, A5, c5, rfl⟩ := hO3.form
  rw [hn, hm] at hO3 ⊢
  clear b0 b1 hb3 HP2
  have hba : Below w3.heap.size w3 (w3.alloc (.cells #[.slice (some ⟨g1, 0, none⟩) n d1, .slice A5 m c5] 25)) := (Below.refl _ w3).alloc (Nat.le_refl _) _
  have hszw : w.heap.size + 1 ≤ w3.heap.size := HP3.out.lt
  have HL4 : Hid (PrsO (w3.alloc (.cells #[.slice (some ⟨g1, 0, none⟩) n d1, .slice A5 m c5] 25)) (w.heap.size + 1) (.slice (some ⟨w3.heap.size, 0, none⟩) 1 1) 1 X) := Lib.hid ⟨_, World.ownsRow_lit (base := w.heap.size + 1) (e := 25) (size := 2) w3 #[.slice (some ⟨g1, 0, none⟩) n d1, .slice A5 m c5] 1 hszw (by decide) rfl, fun j hj => by
    obtain rfl : j = 0 := by omega
    exact ⟨_, _, rfl, rfl, by rw [HP0.out]; exact hO3.below hba⟩⟩
  have HB4 := Lib.hid (belowNext HB3.out hba)
  have HP4 := Lib.hid (HP3.out.below hba HP3.out.lt)
  have hlv0 : lenV (.slice (some ⟨w3.heap.size, 0, none⟩) 1 1) = 1 := rfl
  clear hba hO3 HB3 HP3 hszw
  go_wp2
  generalize w3.alloc (.cells #[.slice (some ⟨g1, 0, none⟩) n d1, .slice A5 m c5] 25) = w4 at *
  generalize (.slice (some ⟨w3.heap.size, 0, none⟩) 1 1 : Value) = LV0 at *
  go_loopw [7, 8, 9] (fun LV _ _ wr => ∃ j : Nat, j ≤ 256 ∧ lenV LV = j + 1 ∧ Hid (∀ i, i < j → (X (i + 1)).cells ≠ (X i).cells) ∧ PrsO wr (w.heap.size + 1) LV (j + 1) X ∧ Hid (Below w.heap.size w wr ∧ PBox wr w.heap.size (.slice A1 n c1) (.slice A2 m c2))) (fun LV _ _ _ => 300 - lenV LV)
  case atStart => exact ⟨0, by omega, hlv0, Lib.hid (fun i hi => absurd hi (by omega)), HL4.out, Lib.hid ⟨HB4.out, HP4.out⟩⟩
  case round =>
    clear hlv0
    obtain ⟨j, hj, hlen, HD, hL, HI⟩ := hrel
    obtain ⟨cs, hown, hel⟩ := hL
    obtain ⟨AL, cL, rfl⟩ := own_sl hown
    obtain ⟨gL, hAL⟩ : ∃ gL, AL = some ⟨gL, 0, none⟩ := by
      rcases hown.2 with ⟨_, h⟩ | ⟨g, cap, cur, h, _⟩
      · omega
      · injection h with h1
        exact ⟨g, h1⟩
    subst hAL
    obtain ⟨V1, V2, e1, e2, hO⟩ := hel j (by omega)
    obtain ⟨g2, d2, A6, c6, ev⟩ := hO.form
    injection ev with ev
    obtain rfl : V1 = .slice (some ⟨g2, 0, none⟩) (X j).wt.length d2 := by
      have := congrArg (fun a => a[0]?) ev
      simpa using this
    obtain rfl : V2 = .slice A6 (X j).cells.length c6 := by
      have := congrArg (fun a => a[1]?) ev
      simpa using this
    rw [HWL.out] at hO e1
    rw [HCLN.out] at hO e2
    clear ev
    have l0 : wr.cell? ⟨gL, j * 2, none⟩ = some (.slice (some ⟨g2, 0, none⟩) n d2) := by rw [hown.cellAt _ (by omega), e1]
    have l1 : wr.cell? ⟨gL, j * 2 + 1, none⟩ = some (.slice A6 m c6) := by rw [hown.cellAt _ (by omega), e2]
    have hprr := hO.prr (HOK.out j)
    have HOW := Lib.hid hown
    have HEL := Lib.hid hel
    have HPR := Lib.hid hprr
    have hszr : w.heap.size + 1 ≤ wr.heap.size := HI.out.2.lt
    have i1 : wrap64 (((j + 1 : Nat) : Int) - 1) = (j : Int) := IntWalk.wrap64_in _ ⟨by omega, by omega⟩ |>.trans (by omega)
    have i2 : wrap64 (((j : Nat) : Int) + 1 - 1) = (j : Int) := IntWalk.wrap64_in _ ⟨by omega, by omega⟩ |>.trans (by omega)
    have HE1 := Lib.hid e1
    have HE2 := Lib.hid e2
    clear hown hel hprr hO e1 e2
    go_wp2_with fail
    refine (HRD.out j _ _ HI.out.1 HPR.out).mono ?_
    rintro e w6 ⟨v6, rfl, hO6, hb6⟩
    obtain ⟨g3, d3, A7, c7, rfl⟩ := hO6.form
    rw [HWL.out, HCLN.out] at hO6
    rw [HWL.out, HCLN.out]
    have hQ6 := PBox.made w6 (.slice (some ⟨g3, 0, none⟩) n d3) (.slice A7 m c7)
    have hb7 : Below w6.heap.size w6 (w6.alloc (.cells #[.slice (some ⟨g3, 0, none⟩) n d3, .slice A7 m c7] 25)) := (Below.refl _ w6).alloc (Nat.le_refl _) _
    have HBR := Lib.hid (belowNext hb6 hb7)
    have hO7 := (hO6.below hb7).mono (show w.heap.size + 1 ≤ wr.heap.size from hszr)
    have HO7 := Lib.hid hO7
    have HQ7 := Lib.hid hQ6
    clear hb6 hO6 hQ6 hb7 hO7 l0 l1
    go_wp2
    generalize hsz6 : w6.heap.size = G6 at *
    generalize w6.alloc (.cells #[.slice (some ⟨g3, 0, none⟩) n d3, .slice A7 m c7] 25) = w7 at *
    have HSM : Hid (∀ W, Below w7.heap.size w7 W → Calls Tryd.prog 33 #[.agg #[.slice (some ⟨g3, 0, none⟩) n d3, .slice A7 m c7], .agg #[.slice (some ⟨g2, 0, none⟩) n d2, .slice A6 m c6]] W fun e w' => e = .returned (.bool (decide (X (j + 1) = X j))) ∧ Below W.heap.size W w') := Lib.hid (fun W hb => rSameP_any (X (j + 1)) (X j) _ _ W (((HO7.out.below hb).prr (HOK.out (j + 1)))) ((HPR.out.step (belowNext HBR.out hb))))
    have hown7 := own_keep1 HOW.out (fun g hg => HBR.out.block g (HOW.out.lt g hg).2)
    have l0 : w7.cell? ⟨gL, j * 2, none⟩ = some (.slice (some ⟨g2, 0, none⟩) n d2) := by rw [hown7.cellAt _ (by omega), HE1.out]
    have l1 : w7.cell? ⟨gL, j * 2 + 1, none⟩ = some (.slice A6 m c6) := by rw [hown7.cellAt _ (by omega), HE2.out]
    have q0 := HQ7.out.c0
    have q1 := HQ7.out.c1
    have i3 : IntKind.i64.wrap (j : Int) = (j : Int) := wrapS_in j (by omega)
    have i4 : (j : Int) < (j : Int) + 1 := by omega
    have hdd : Below w7.heap.size w7 w7.drew := (Below.refl _ w7).drew
    have hQX : Hid (∀ W, Below w7.heap.size w7 W → W.cell? ⟨G6, 0, none⟩ = some (.slice (some ⟨g3, 0, none⟩) n d3) ∧ W.cell? ⟨G6, 1, none⟩ = some (.slice A7 m c7)) := Lib.hid (fun W hb => ⟨(HQ7.out.below hb HQ7.out.lt).c0, (HQ7.out.below hb HQ7.out.lt).c1⟩)
    by_cases he : (X (j + 1)).cells = (X j).cells
    · have hd : decide (X (j + 1) = X j) = true := decide_eq_true ((HES.out j).2 he)
      rw [hd] at HSM
      have HK := Lib.hid (HEK.out j HD.out he)
      clear he hd hown7
      go_region_with (go_at_call 33; refine (HSM.out _ ?_).mono ?_; assumption; rintro e w8 ⟨rfl, hb8⟩; have hc8 : Below w7.heap.size w7 w8 := (by refine belowNext ?_ hb8; assumption); have q8 := (hQX.out w8 hc8).1; have q9 := (hQX.out w8 hc8).2; clear hb8)
      all_goals
        have HFI : Hid (PrsO w8 w.heap.size (.slice (some ⟨gL, 0, none⟩) (j + 1) cL) (j + 1) X) := Lib.hid (by
          have h1 : PrsO wr (w.heap.size + 1) (.slice (some ⟨gL, 0, none⟩) (j + 1) cL) (j + 1) X := ⟨cs, HOW.out, HEL.out⟩
          obtain ⟨cs2, h2, h3⟩ := (h1.below HBR.out).below hc8
          refine ⟨cs2, own_base h2 (Nat.le_succ _), fun i hi => ?_⟩
          obtain ⟨U1, U2, f1, f2, h4⟩ := h3 i hi
          exact ⟨U1, U2, f1, f2, h4.mono (Nat.le_succ _)⟩)
        have HBZ := Lib.hid (belowNext (belowNext HI.out.1 HBR.out) hc8)
        clear hc8 q0 q1 l0 l1 hdd
        go_wp2
        go_ret2
        exact ⟨j + 1, _, rfl, HK.out, HFI.out, HBZ.out⟩
    · have hd : decide (X (j + 1) = X j) = false := decide_eq_false (fun e => he ((HES.out j).1 e))
      rw [hd] at HSM
      have HD2 : Hid (∀ i, i < j + 1 → (X (i + 1)).cells ≠ (X i).cells) := Lib.hid (fun i hi => by
        by_cases e : i = j
        · rw [e]; exact he
        · exact HD.out i (by omega))
      have hj2 := HLA.out (j + 1) HD2.out
      clear he hd hown7
      go_region_with (go_at_call 33; refine (HSM.out _ ?_).mono ?_; assumption; rintro e w8 ⟨rfl, hb8⟩; have hc8 : Below w7.heap.size w7 w8 := (by refine belowNext ?_ hb8; assumption); have q8 := (hQX.out w8 hc8).1; have q9 := (hQX.out w8 hc8).2; clear hb8)
      all_goals
        have HC8 := Lib.hid hc8
        have HBW := Lib.hid (belowNext HBR.out hc8)
        have hown : w8.ownsRow (w.heap.size + 1) 25 2 (.slice (some ⟨gL, 0, none⟩) (j + 1) cL) (j + 1) cs := own_keep1 HOW.out (fun g hg => HBW.out.block g (HOW.out.lt g hg).2)
        have hsz8 : w.heap.size + 1 ≤ w8.heap.size := Nat.le_trans hszr HBW.out.size
        obtain ⟨i0, hi, hz0, hz1, hz2⟩ := info_parts Tryd.infoPr
        have HO8 : Hid (PrO w8 (w.heap.size + 1) (.agg #[.slice (some ⟨g3, 0, none⟩) n d3, .slice A7 m c7]) (X (j + 1))) := Lib.hid (HO7.out.below HC8.out)
        have HEL8 : Hid (∀ i, i < j + 1 → ∃ V1 V2, cs[i * 2]? = some V1 ∧ cs[i * 2 + 1]? = some V2 ∧ PrO w8 (w.heap.size + 1) (.agg #[V1, V2]) (X i)) := Lib.hid (fun i hi => by
          obtain ⟨U1, U2, f1, f2, h4⟩ := HEL.out i hi
          exact ⟨U1, U2, f1, f2, h4.below HBW.out⟩)
        have HB8 := Lib.hid (belowNext HI.out.1 HBW.out)
        have HP8 := Lib.hid (HI.out.2.below HBW.out HI.out.2.lt)
        clear q0 q1 l0 l1 hdd hc8
        go_wp2_with (at_builtin; refine wpList_append_own _ rfl _ _ 56 rfl (w.heap.size + 1) 25 i0 (.agg #[.slice none 0 0, .slice none 0 0]) 2 48 Tryd.underlying56 hi hz0 hz1 hz2 rfl (by decide) _ _ _ rfl (hown.alloc _) ⟨w8.heap.size, 0, none⟩ 1 1 [.slice (some ⟨g3, 0, none⟩) n d3, .slice A7 m c7] rfl rfl ?c1 ?c2 ?c3 ?c4 ?c5 ?_)
        case c1 =>
          intro i u hi
          match i, hi with
          | 0, hi => simp at hi; subst hi; simp [Addr.add]
          | 1, hi => simp at hi; subst hi; simp [Addr.add]
        case c2 => intro u hu; simp at hu; rcases hu with rfl | rfl <;> rfl
        case c3 => unfold maxLen; omega
        case c4 => omega
        case c5 => simp; omega
        · intro v' w9 hown' hgrow _
          have hL9 := Lib.hid (PrsO.snoc hown HEL8.out HO8.out hgrow hown')
          have HP9 : Hid (PBox w9 w.heap.size (.slice A1 n c1) (.slice A2 m c2)) := Lib.hid (by
            have hb9 : Below (w.heap.size + 1) w8 w9 := ((Below.refl _ w8).alloc hsz8 _).grown hgrow (by simp; omega) (fun i hi => (hown.lt i hi).1)
            exact HP8.out.below hb9 (Nat.lt_succ_self _))
          have HB9 := Lib.hid ((HB8.out.alloc HB8.out.size _).grown hgrow (by have := HB8.out.size; simp; omega) (fun i hi => by have := (hown.lt i hi).1; omega))
          obtain ⟨A9, c9, rfl⟩ := own_sl hown'
          have hl9 : lenV (.slice A9 (j + 1 + 1) c9) = j + 1 + 1 := rfl
          clear hown hown' hgrow hi hz0 hz1 hz2 q8 q9
          go_wp2
          go_roundw
          case rel => exact ⟨j + 1, hj2, hl9, HD2, hL9.out, Lib.hid ⟨HB9.out, HP9.out⟩⟩
          case measure => simp only [lenV]; omega
end Go.Proofs.YtfbgabcdeecpoaaDoor
/- Layer 24: what is common knowledge, by the program. -/
namespace Go.Proofs.YtfbgabcdeecpoaaDoor
open Go.RowKit Go.Proofs.Ws
set_option maxRecDepth 100000
/-- the finest partition that the first k agents' cells all refine -/
structure LubK (p : Pri) (k : Nat) (j : List Int) : Prop where
  can : Can p.wt.length j
  up : ∀ a, a < k → Rf (p.cells.getD a []) j
  least : ∀ q, (∀ a, a < k → Rf (p.cells.getD a []) q) → Rf j q
theorem LubK.unique {p : Pri} {k : Nat} {j j' : List Int} (h : LubK p k j) (h' : LubK p k j') : j = j' :=
  Rf.antisymm h.can h'.can (h.least j' h'.up) (h'.least j h.up)
theorem LubK.step {p : Pri} {k : Nat} {j j' : List Int} (h : LubK p k j) (h' : Lub p.wt.length j (p.cells.getD k []) j') : LubK p (k + 1) j' where
  can := h'.can
  up := fun a ha => by
    by_cases e : a = k
    · subst e; exact h'.r
    · exact (h.up a (by omega)).trans h'.l
  least := fun q hq => h'.least q (h.least q (fun a ha => hq a (by omega))) (hq k (Nat.lt_succ_self k))
theorem finL_fo (n i : Nat) : fo (finL n) i = i := by
  unfold fo
  split
  · rename_i h
    rw [finL_getD (by simpa [finL] using h)]; simp
  · rfl
theorem LubK.zero {p : Pri} (h : p.wt.length ≤ 64) : LubK p 0 (finL p.wt.length) where
  can := by
    have hl : (finL p.wt.length).length = p.wt.length := by simp [finL]
    refine ⟨hl, partErr_ok (by rw [hl]; exact h) (fun i hi => ?_)⟩
    rw [hl] at hi
    unfold okAt
    rw [finL_getD hi, Int.toNat_natCast, finL_getD hi]
    simp
  up := fun a ha => absurd ha (by omega)
  least := fun q _ i => by rw [finL_fo]
def comE (p : Pri) (x : Int) : Int := if chkP p = 0 then (if 0 ≤ x ∧ x < p.wt.length then 0 else 2) else chkP p
theorem comE_ok {p : Pri} {x : Int} (h : comE p x = 0) : OkP p ∧ 0 ≤ x ∧ x < p.wt.length := by
  unfold comE at h
  by_cases h1 : chkP p = 0
  · rw [if_pos h1] at h
    by_cases h2 : 0 ≤ x ∧ x < p.wt.length
    · exact ⟨chkP_ok h1, h2⟩
    · rw [if_neg h2] at h; exact absurd h (by decide)
  · rw [if_neg h1] at h; exact absurd h h1
def ComV (p : Pri) (x : Int) (C : Nat) : Prop := (comE p x ≠ 0 → C = 0) ∧ (comE p x = 0 → ∃ j, LubK p p.cells.length j ∧ C = blkV j x)
theorem ComV.unique {p : Pri} {x : Int} {C D : Nat} (h : ComV p x C) (h' : ComV p x D) : C = D := by
  by_cases e : comE p x = 0
  · obtain ⟨j, h1, rfl⟩ := h.2 e
    obtain ⟨j', h2, rfl⟩ := h'.2 e
    rw [h1.unique h2]
  · rw [h.1 e, h'.1 e]
def GivesC (p : Pri) (x : Int) (w : World) (e : Ending) (w' : World) : Prop :=
  ∃ C : Nat, e = .returned (.tuple #[.int .u64 (C : Int), .int .i64 (comE p x)]) ∧ ComV p x C ∧ Below w.heap.size w w'
set_option maxHeartbeats 4000000 in
theorem aCommon_ok (p : Pri) (x : Int) (v : Value) (w : World) (hM : PrR w w.heap.size v p) (h0 : comE p x = 0) (hF : FinW w) :
    Calls Tryd.prog 15 #[v, .int .i64 x] w fun e w' => ∃ j, e = .returned (.tuple #[.int .u64 (blkV j x : Int), .int .i64 0]) ∧ LubK p p.cells.length j ∧ Below w.heap.size w w' := by
  have hok := (comE_ok h0).1
  have hx := (comE_ok h0).2
  have hle := hok.le
  have hag := hok.ag
  have HC := Lib.hid (fun (W : World) (hb : Below w.heap.size w W) => aCheck_any p v W (hM.below hb hb.size))
  rw [hok.chk] at HC
  have HHW := Lib.hid (fun (W : World) (hb : Below w.heap.size w W) => aHasW_any p v x W (hM.below hb hb.size))
  rw [decide_eq_true hx] at HHW
  have HD := Lib.hid (fun (W : World) (hb : Below w.heap.size w W) => pDiscrete_ok p.wt.length W hle (hF.below hb))
  have HFL : Hid ((finL p.wt.length).length = p.wt.length) := Lib.hid (by simp [finL])
  obtain ⟨A1, c1, A2, c2, rfl, hv, hr⟩ := hM.ex
  have HB1 : Hid (Below w.heap.size w (w.alloc (.cells #[.slice A1 p.wt.length c1, .slice A2 p.cells.length c2] 25))) := Lib.hid ((Below.refl _ w).alloc (Nat.le_refl _) _)
  have HPB := Lib.hid (PBox.made w (.slice A1 p.wt.length c1) (.slice A2 p.cells.length c2))
  have HCC : Hid (∀ k, k < p.cells.length → ∃ ad Ak ck, A2 = some ad ∧ ad.block < w.heap.size ∧ (∀ W, Below w.heap.size w W → W.cell? (ad.add k) = some (.slice Ak p.wt.length ck) ∧ Reads W w.heap.size 1 Ak p.wt.length (ints (p.cells.getD k [])))) := Lib.hid (fun k hk => by
    obtain ⟨ad, Ak, ck, hA, had, hcell, hrc, hlc⟩ := hr.at_ hk
    rw [(hok.can hk).len] at hcell hrc hlc
    exact ⟨ad, Ak, ck, hA, had, fun W hb => ⟨(hb.cell (p := ad.add k) (by rw [block_of_add]; exact had)).trans hcell, hrc.below hb⟩⟩)
  have HJ : Hid (∀ k, k < p.cells.length → ∀ (j : List Int) (A B : Option Addr) (c c' : Nat) (W : World), LubK p k j → Reads W W.heap.size 1 A p.wt.length (ints j) → Reads W W.heap.size 1 B p.wt.length (ints (p.cells.getD k [])) → Calls Tryd.prog 44 #[.slice A p.wt.length c, .slice B p.wt.length c'] W fun e w' => ∃ j', LubK p (k + 1) j' ∧ GivesP j' p.wt.length W e w') := Lib.hid (fun k hk j A B c c' W hj hR hR2 => by
    refine (joinLub_any j (p.cells.getD k []) A B p.wt.length c c' W hR hR2 hle hj.can (hok.can hk)).mono ?_
    rintro e w' ⟨j', h1, h2⟩
    exact ⟨j', hj.step h1, h2⟩)
  have HZ := Lib.hid (LubK.zero (p := p) hle)
  have HBK : Hid (∀ (j : List Int) (A : Option Addr) (c : Nat) (W : World), Reads W W.heap.size 1 A p.wt.length (ints j) → Calls Tryd.prog 37 #[.slice A p.wt.length c, .int .i64 x] W fun e w' => e = .returned (.int .u64 (blkV j x : Int)) ∧ Below W.heap.size W w') := Lib.hid (fun j A c W hR => pBlock_any j x A p.wt.length c W hR (by unfold maxLen; omega))
  have HBL : Hid (∀ j, blkV j x < 18446744073709551616 ∨ True) := Lib.hid (fun j => Or.inr trivial)
  clear hM hv hr hok hF h0 hx HBL
  generalize hfin : finL p.wt.length = FL at *
  clear hfin
  generalize hF : (fun j => p.cells.getD j []) = F at *
  have HFE : Hid (∀ j, p.cells.getD j [] = F j) := Lib.hid (fun j => by rw [← hF])
  simp only [HFE.out] at HCC HJ
  clear hF HFE
  generalize LubK p = LK at *
  generalize p.wt.length = n at *
  generalize p.cells.length = m at *
  go_enter Tryd.func15, Tryd.ntmps15
  go_wp2_with fail
  refine (HC.out _ HB1.out).mono ?_
  rintro e w2 ⟨rfl, hb⟩
  have HB2 := Lib.hid (belowNext HB1.out hb)
  have HP2 := Lib.hid (HPB.out.below hb HPB.out.lt)
  have b0 := HP2.out.c0
  have b1 := HP2.out.c1
  clear hb HB1 HPB
  go_wp2_with fail
  refine (HHW.out _ HB2.out).mono ?_
  rintro e w3 ⟨rfl, hb⟩
  have HB3 := Lib.hid (belowNext HB2.out hb)
  have HP3 := Lib.hid (HP2.out.below hb HP2.out.lt)
  clear b0 b1
  have b0 := HP3.out.c0
  have b1 := HP3.out.c1
  clear hb HB2 HP2
  go_wp2_with fail
  refine (HD.out _ HB3.out).mono ?_
  rintro e w4 ⟨A, c, rfl, hrd, hb⟩
  rw [HFL.out] at hrd
  rw [HFL.out]
  have HB4 := Lib.hid (belowNext HB3.out hb)
  have HP4 := Lib.hid (HP3.out.below hb HP3.out.lt)
  have HRD := Lib.hid hrd
  clear b0 b1
  have b0 := HP4.out.c0
  have b1 := HP4.out.c1
  clear hb hrd HB3 HP3
  go_wp2
  go_loopw [7, 10, 30] (fun LV _ i wr => ∃ (k : Nat) (A : Option Addr) (c : Nat) (j : List Int), k ≤ m ∧ LV = .slice A n c ∧ i = .int .i64 (k : Int) ∧ Hid (LK k j) ∧ Hid (Reads wr wr.heap.size 1 A n (ints j)) ∧ Hid (Below w.heap.size w wr)) (fun _ _ i _ => m - (intOf i).toNat)
  case atStart => exact ⟨0, A, c, FL, Nat.zero_le _, rfl, rfl, HZ, HRD, HB4⟩
  case round =>
    clear b0 b1
    obtain ⟨k, A, c, j, hk, rfl, rfl, HLK, HR, HB⟩ := hrel
    by_cases hlt : k < m
    · obtain ⟨ad, Ak, ck, rfl, had, hW⟩ := HCC.out k hlt
      have hcell := (hW wr HB.out).1
      have HJK := Lib.hid (HJ.out k hlt j A Ak c ck wr HLK.out HR.out ((hW wr HB.out).2.more HB.out.size))
      clear hW
      go_wp2_with fail
      refine (HJK.out).mono ?_
      rintro e w5 ⟨j', hj', A5, c5, rfl, hr5, hb5⟩
      have HLK5 := Lib.hid hj'
      have HR5 := Lib.hid hr5
      have HB5 := Lib.hid (belowNext HB.out hb5)
      clear hj' hr5 hb5 hcell
      go_wp2
      go_roundw
      case rel => exact ⟨k + 1, A5, c5, j', by omega, rfl, by go_num, HLK5, HR5, HB5⟩
      case measure => first | (simp [intOf]; done) | (simp [intOf]; omega)
    · obtain rfl : k = m := by omega
      go_wp2_with fail
      refine (HBK.out j A c wr HR.out).mono ?_
      rintro e w5 ⟨rfl, hb5⟩
      have HB5 := Lib.hid (belowNext HB.out hb5)
      clear hb5
      go_wp2
      go_ret2
      exact ⟨j, rfl, HLK.out, HB5.out⟩
end Go.Proofs.YtfbgabcdeecpoaaDoor
/- Layer 24: exchanges and common knowledge, with errors. -/
namespace Go.Proofs.YtfbgabcdeecpoaaDoor
open Go.RowKit Go.Proofs.Ws
set_option maxRecDepth 100000
def GivesX (p : Pri) (s : Nat) (w : World) (e : Ending) (w' : World) : Prop :=
  (evE p s = 0 → ∃ K LV, e = .returned (.tuple #[LV, .int .i64 0]) ∧ ExK p s K ∧ PrsO w' w.heap.size LV K (exN p s)) ∧
  (evE p s ≠ 0 → e = .returned (.tuple #[.slice none 0 0, .int .i64 (evE p s)])) ∧ Below w.heap.size w w'
set_option maxHeartbeats 4000000 in
theorem aExchange_any (p : Pri) (s : Nat) (v : Value) (w : World) (hM : PrR w w.heap.size v p) (hs : s < 18446744073709551616) (hT : Tab w) :
    Calls Tryd.prog 34 #[v, .int .u64 (s : Int)] w (GivesX p s w) := by
  by_cases h0 : evE p s = 0
  · refine (aExchange_ok p s v w hM h0 hs hT).mono ?_
    rintro e w' ⟨K, LV, h1, h2, h3, h4⟩
    exact ⟨fun _ => ⟨K, LV, h1, h2, h3⟩, fun h => absurd h0 h, h4⟩
  · have HC := Lib.hid (fun (W : World) (hb : Below w.heap.size w W) => aEv_any p v s W (hM.below hb hb.size) hs)
    have HX : Hid (∀ e w', e = .returned (.tuple #[.slice none 0 0, .int .i64 (evE p s)]) → Below w.heap.size w w' → GivesX p s w e w') := Lib.hid (fun e w' h1 h2 => ⟨fun h => absurd h h0, fun _ => h1, h2⟩)
    have hz : (evE p s != 0) = true := by rw [bne_iff_ne]; exact h0
    obtain ⟨A1, c1, A2, c2, rfl, hv, hr⟩ := hM.ex
    have HB1 : Hid (Below w.heap.size w (w.alloc (.cells #[.slice A1 p.wt.length c1, .slice A2 p.cells.length c2] 25))) := Lib.hid ((Below.refl _ w).alloc (Nat.le_refl _) _)
    have HPB := Lib.hid (PBox.made w (.slice A1 p.wt.length c1) (.slice A2 p.cells.length c2))
    clear hM hv hr h0 hs hT
    generalize evE p s = E at *
    generalize p.wt.length = n at *
    generalize p.cells.length = m at *
    go_enter Tryd.func34, Tryd.ntmps34
    go_wp2_with fail
    refine (HC.out _ HB1.out).mono ?_
    rintro e w2 ⟨rfl, hb⟩
    have HB2 := Lib.hid (belowNext HB1.out hb)
    clear hb HB1 HPB
    go_wp2
    go_ret2
    exact HX.out _ _ rfl HB2.out
set_option maxHeartbeats 4000000 in
theorem rExchange_any (p : Pri) (s : Nat) (v : Value) (w : World) (hM : PrR w w.heap.size v p) (hs : s < 18446744073709551616) :
    Calls Tryd.prog 35 #[v, .int .u64 (s : Int)] w (GivesX p s w) := by
  by_cases h0 : evE p s = 0
  · refine (rExchange_ok p s v w hM h0 hs).mono ?_
    rintro e w' ⟨K, LV, h1, h2, h3, h4⟩
    exact ⟨fun _ => ⟨K, LV, h1, h2, h3⟩, fun h => absurd h0 h, h4⟩
  · have HC := Lib.hid (fun (W : World) (hb : Below w.heap.size w W) => rEv_any p v s W (hM.below hb hb.size) hs)
    have HX : Hid (∀ e w', e = .returned (.tuple #[.slice none 0 0, .int .i64 (evE p s)]) → Below w.heap.size w w' → GivesX p s w e w') := Lib.hid (fun e w' h1 h2 => ⟨fun h => absurd h h0, fun _ => h1, h2⟩)
    have hz : (evE p s != 0) = true := by rw [bne_iff_ne]; exact h0
    obtain ⟨A1, c1, A2, c2, rfl, hv, hr⟩ := hM.ex
    have HB1 : Hid (Below w.heap.size w (w.alloc (.cells #[.slice A1 p.wt.length c1, .slice A2 p.cells.length c2] 25))) := Lib.hid ((Below.refl _ w).alloc (Nat.le_refl _) _)
    have HPB := Lib.hid (PBox.made w (.slice A1 p.wt.length c1) (.slice A2 p.cells.length c2))
    clear hM hv hr h0 hs
    generalize evE p s = E at *
    generalize p.wt.length = n at *
    generalize p.cells.length = m at *
    go_enter Tryd.func35, Tryd.ntmps35
    go_wp2_with fail
    refine (HC.out _ HB1.out).mono ?_
    rintro e w2 ⟨rfl, hb⟩
    have HB2 := Lib.hid (belowNext HB1.out hb)
    clear hb HB1 HPB
    go_wp2
    go_ret2
    exact HX.out _ _ rfl HB2.out
set_option maxHeartbeats 4000000 in
theorem aCommon_any (p : Pri) (x : Int) (v : Value) (w : World) (hM : PrR w w.heap.size v p) (hF : FinW w) :
    Calls Tryd.prog 15 #[v, .int .i64 x] w (GivesC p x w) := by
  by_cases h0 : comE p x = 0
  · refine (aCommon_ok p x v w hM h0 hF).mono ?_
    rintro e w' ⟨j, rfl, h1, h2⟩
    exact ⟨blkV j x, by rw [h0], ⟨fun h => absurd h0 h, fun _ => ⟨j, h1, rfl⟩⟩, h2⟩
  · have HC := Lib.hid (fun (W : World) (hb : Below w.heap.size w W) => aCheck_any p v W (hM.below hb hb.size))
    have HHW := Lib.hid (fun (W : World) (hb : Below w.heap.size w W) => aHasW_any p v x W (hM.below hb hb.size))
    have HX : Hid (∀ e w', e = .returned (.tuple #[.int .u64 0, .int .i64 (comE p x)]) → Below w.heap.size w w' → GivesC p x w e w') := Lib.hid (fun e w' h1 h2 => ⟨0, h1, ⟨fun _ => rfl, fun h => absurd h h0⟩, h2⟩)
    obtain ⟨A1, c1, A2, c2, rfl, hv, hr⟩ := hM.ex
    have HB1 : Hid (Below w.heap.size w (w.alloc (.cells #[.slice A1 p.wt.length c1, .slice A2 p.cells.length c2] 25))) := Lib.hid ((Below.refl _ w).alloc (Nat.le_refl _) _)
    have HPB := Lib.hid (PBox.made w (.slice A1 p.wt.length c1) (.slice A2 p.cells.length c2))
    by_cases h1 : chkP p = 0
    · have h2 : ¬ (0 ≤ x ∧ x < p.wt.length) := fun h => h0 (by unfold comE; rw [if_pos h1, if_pos h])
      have hE : comE p x = 2 := by unfold comE; rw [if_pos h1, if_neg h2]
      rw [hE] at HX
      rw [decide_eq_false h2] at HHW
      rw [h1] at HC
      clear hM hv hr h0 hF h1 h2 hE
      generalize p.wt.length = n at *
      generalize p.cells.length = m at *
      go_enter Tryd.func15, Tryd.ntmps15
      go_wp2_with fail
      refine (HC.out _ HB1.out).mono ?_
      rintro e w2 ⟨rfl, hb⟩
      have HB2 := Lib.hid (belowNext HB1.out hb)
      have HP2 := Lib.hid (HPB.out.below hb HPB.out.lt)
      have b0 := HP2.out.c0
      have b1 := HP2.out.c1
      clear hb HB1 HPB
      go_wp2_with fail
      refine (HHW.out _ HB2.out).mono ?_
      rintro e w3 ⟨rfl, hb⟩
      have HB3 := Lib.hid (belowNext HB2.out hb)
      clear b0 b1 hb
      go_wp2
      go_ret2
      exact HX.out _ _ rfl HB3.out
    · have hE : comE p x = chkP p := by unfold comE; rw [if_neg h1]
      rw [hE] at HX
      have hz : (chkP p != 0) = true := by rw [bne_iff_ne]; exact h1
      clear hM hv hr h0 hF h1 hE HHW
      generalize chkP p = E at *
      generalize p.wt.length = n at *
      generalize p.cells.length = m at *
      go_enter Tryd.func15, Tryd.ntmps15
      go_wp2_with fail
      refine (HC.out _ HB1.out).mono ?_
      rintro e w2 ⟨rfl, hb⟩
      have HB2 := Lib.hid (belowNext HB1.out hb)
      clear hb HB1 HPB
      go_wp2
      go_ret2
      exact HX.out _ _ rfl HB2.out
end Go.Proofs.YtfbgabcdeecpoaaDoor
