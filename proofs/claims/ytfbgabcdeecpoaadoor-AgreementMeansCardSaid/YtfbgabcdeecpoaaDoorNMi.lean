/- Layer 6: texts joined: Yi Yj. -/
import Derived.Test.YtfbgabcdeecpoaaDoorNMh
/- Layer 24: the posterior at a world by the reference. -/
namespace Go.Proofs.YtfbgabcdeecpoaaDoor
open Go.RowKit Go.Proofs.Ws
set_option maxRecDepth 100000
set_option maxHeartbeats 1000000 in
theorem rPost_any (p : Pri) (v : Value) (a x s : Nat) (w : World) (hM : PrR w w.heap.size v p) (hok : OkP p) (ha : a < p.cells.length) (hx : x < p.wt.length) (hs : s < 18446744073709551616) :
    Calls Tryd.prog 54 #[v, .int .i64 (a : Int), .int .i64 (x : Int), .int .u64 (s : Int)] w fun e w' => e = .returned (frV (postN p a x s)) ∧ Below w.heap.size w w' := by
  obtain ⟨A1, c1, A2, c2, rfl, hv, hr⟩ := hM.ex
  have hcan := hok.can ha
  have hle := hok.le
  have HWT := Lib.hid (fun (y : Nat) (hy : y < 18446744073709551616) (W : World) (hb : Below w.heap.size w W) => rWeight_any p _ y W (hM.below hb hb.size) hok hy)
  have hbl := blkV_lt hok ha (x : Int)
  have hb64 : blkV (p.cells.getD a []) (x : Int) < 18446744073709551616 := Nat.lt_of_lt_of_le hbl (Nat.pow_le_pow_right (show 0 < 2 by decide) hle)
  have hand := u64_and_nat (blkV (p.cells.getD a []) (x : Int)) s hb64 hs
  have hb1 : blkV (p.cells.getD a []) (x : Int) &&& s < 18446744073709551616 := Nat.lt_of_le_of_lt Nat.and_le_left hb64
  have hwp : 0 < wOf p.wt (blkV (p.cells.getD a []) (x : Int)) := wOf_pos hok (i := x) hx (by
    unfold blkV
    rw [if_pos ⟨hcan.ok, by omega, by rw [hcan.len]; omega⟩, cls_bit]
    exact ⟨by rw [hcan.len]; exact hx, rfl⟩)
  have HL := Lib.hid (fun W => rReduce_any (wOf p.wt (blkV (p.cells.getD a []) (x : Int) &&& s)) (wOf p.wt (blkV (p.cells.getD a []) (x : Int))) W (wOf_le hok _) ⟨hwp, wOf_le hok _⟩)
  have HPN : Hid (redN (wOf p.wt (blkV (p.cells.getD a []) (x : Int) &&& s)) (wOf p.wt (blkV (p.cells.getD a []) (x : Int))) = postN p a x s) := Lib.hid rfl
  rw [HPN.out] at HL
  obtain ⟨ad, Ac, cc, rfl, had, hcell, hrc, hlc⟩ := hr.at_ ha
  rw [hcan.len] at hcell hrc hlc
  have HBK := Lib.hid (fun (W : World) (hb : Below w.heap.size w W) => pRefBlock_any (p.cells.getD a []) (x : Int) Ac p.wt.length cc W ((hrc.below hb).more hb.size) hlc)
  have HB1 : Hid (Below w.heap.size w ((w.alloc (.cells #[.slice A1 p.wt.length c1, .slice (some ad) p.cells.length c2] 25)).alloc (.cells #[.int .i64 0, .int .i64 0] 41))) := Lib.hid (((Below.refl _ w).alloc (Nat.le_refl _) _).alloc (by simp) _)
  have HPB : Hid (PBox ((w.alloc (.cells #[.slice A1 p.wt.length c1, .slice (some ad) p.cells.length c2] 25)).alloc (.cells #[.int .i64 0, .int .i64 0] 41)) w.heap.size (.slice A1 p.wt.length c1) (.slice (some ad) p.cells.length c2)) := Lib.hid ((Below.heap_alloc _ _ _ (PBox.made w _ _).lt).trans (PBox.made w _ _))
  have HFB : Hid (FBox ((w.alloc (.cells #[.slice A1 p.wt.length c1, .slice (some ad) p.cells.length c2] 25)).alloc (.cells #[.int .i64 0, .int .i64 0] 41)) (w.heap.size + 1) (.int .i64 0) (.int .i64 0)) := Lib.hid (by
    have := FBox.made (w.alloc (.cells #[.slice A1 p.wt.length c1, .slice (some ad) p.cells.length c2] 25)) (.int .i64 0) (.int .i64 0)
    simpa using this)
  have hce := (HB1.out.cell (p := ad.add a) (by rw [block_of_add]; exact had)).trans hcell
  clear hM hv hr hok hcan hrc hlc hcell hs hwp HPN hbl
  generalize postN p a x s = q at *
  obtain ⟨q1, q2⟩ := q
  unfold frV at *
  dsimp only at *
  generalize blkV (p.cells.getD a []) (x : Int) &&& s = b1 at *
  generalize blkV (p.cells.getD a []) (x : Int) = b2 at *
  generalize wOf p.wt = wo at *
  generalize p.wt.length = n at *
  generalize p.cells.length = m at *
  go_enter Tryd.func54, Tryd.ntmps54
  go_wp2_with fail
  generalize (w.alloc (.cells #[.slice A1 n c1, .slice (some ad) m c2] 25)).alloc (.cells #[.int .i64 0, .int .i64 0] 41) = w1 at *
  refine (HBK.out _ HB1.out).mono ?_
  rintro e w2 ⟨rfl, nq, rfl⟩
  have HBX : Hid (∀ W, Below w1.heap.size w1 W → W.cell? ⟨w.heap.size, 0, none⟩ = some (.slice A1 n c1) ∧ W.cell? ⟨w.heap.size, 1, none⟩ = some (.slice (some ad) m c2)) := Lib.hid (fun W hb => by
    have h := HPB.out.below hb HPB.out.lt
    exact ⟨h.c0, h.c1⟩)
  have HFX : Hid (∀ W, Below w1.heap.size w1 W → FBox W (w.heap.size + 1) (.int .i64 0) (.int .i64 0)) := Lib.hid (fun W hb => HFB.out.below hb HFB.out.lt)
  have HW : Hid (∀ y : Nat, y < 18446744073709551616 → ∀ W, Below w1.heap.size w1 W → Calls Tryd.prog 36 #[.agg #[.slice A1 n c1, .slice (some ad) m c2], .int .u64 (y : Int)] W fun e w' => e = .returned (.int .i64 ((wo y : Nat) : Int)) ∧ Below W.heap.size W w') := Lib.hid (fun y hy W hb => HWT.out y hy W (belowNext HB1.out hb))
  have hd0 := below_drewN (Below.refl w1.heap.size w1) nq
  clear HBK hce
  generalize w1.drewN nq = w2 at *
  have e0 := (HBX.out _ hd0).1
  have e1 := (HBX.out _ hd0).2
  have hd1 := hd0.drew
  go_wp2
  go_region_with (first
    | (go_at_call 36; refine (HW.out _ ?_ _ ?_).mono ?_; assumption; assumption; rintro e w5 ⟨rfl, hb5⟩; have hc5 : Below w1.heap.size w1 w5 := (by refine belowNext ?_ hb5; assumption); have hd5 := (HBX.out w5 hc5).1; have hg5 := (HBX.out w5 hc5).2; clear hb5)
    | (go_at_call 75; refine (HL.out _).mono ?_; rintro e w7 ⟨rfl, hb7⟩; have hc7 : Below w1.heap.size w1 w7 := (by refine belowNext ?_ hb7; assumption); have hF7 := HFX.out w7 hc7; have hp0 := hF7.c0; have hp1 := hF7.c1; have hq0 := hF7.free 0; have hq1 := hF7.free 1; clear hb7 hF7))
  all_goals
    have HZ := Lib.hid ((HFX.out w7 hc7).set2 (.int .i64 (q1 : Int)) (.int .i64 (q2 : Int)))
    have HC7 := Lib.hid hc7
    clear hp0 hp1 hq0 hq1 hc7
    generalize ((w7.setCell ⟨w.heap.size + 1, 0, none⟩ (.int .i64 (q1 : Int))).setCell ⟨w.heap.size + 1, 1, none⟩ (.int .i64 (q2 : Int))) = w8 at *
    go_wp2
    (try simp only [Exit.inBlock, Exit.then])
    refine bodyPost_ret (ret_cell1 rfl _ _ (w.heap.size + 1) _ _ _ _ rfl HZ.out.1 Tryd.underlying41 rfl (by kernel_rfl)) rfl ?_
    have hbz := belowNext HB1.out HC7.out
    exact ⟨rfl, hbz.trans (HZ.out.2.below (Nat.le_succ _) hbz.size)⟩
end Go.Proofs.YtfbgabcdeecpoaaDoor
/- Layer 24: Posteriors by the reference. -/
namespace Go.Proofs.YtfbgabcdeecpoaaDoor
open Go.RowKit Go.Proofs.Ws
set_option maxRecDepth 100000
theorem own_readsF {w : World} {base : Nat} {e : TypeId} {v : Value} {n : Nat} {xs : List Value} (h : w.ownsRow base e 2 v n xs) :
    ∃ A c, v = .slice A n c ∧ Reads w w.heap.size 2 A n xs := by
  obtain ⟨A, c, rfl⟩ := own_sl h
  exact ⟨A, c, rfl, Reads.of_own h⟩
theorem postL_take (p : Pri) (a s : Nat) {k : Nat} (h : k < p.wt.length) : (postL p a s).take (k + 1) = (postL p a s).take k ++ [postN p a k s] := by
  rw [List.take_succ_eq_append_getElem (by rw [postL_len]; exact h)]
  congr 1
  have := postL_at p a s h
  rw [List.getD_eq_getElem?_getD, List.getElem?_eq_getElem (by rw [postL_len]; exact h)] at this
  rw [← this]; rfl
set_option maxHeartbeats 4000000 in
theorem rPostsE_ok (p : Pri) (v : Value) (b s : Nat) (w : World) (hM : PrR w w.heap.size v p) (h0 : evE p s = 0) (h1 : b < p.cells.length) (hs : s < 18446744073709551616) :
    Calls Tryd.prog 25 #[v, .int .i64 (b : Int), .int .u64 (s : Int)] w (GivesFE (postL p b s) 0 w) := by
  obtain ⟨A1, c1, A2, c2, rfl, hv, hr⟩ := hM.ex
  have HB1 : Hid (Below w.heap.size w (w.alloc (.cells #[.slice A1 p.wt.length c1, .slice A2 p.cells.length c2] 25))) := Lib.hid ((Below.refl _ w).alloc (Nat.le_refl _) _)
  have HPB := Lib.hid (PBox.made w (.slice A1 p.wt.length c1) (.slice A2 p.cells.length c2))
  have HC := Lib.hid (rEv_any p _ s _ (hM.step HB1.out) hs)
  rw [h0] at HC
  have hok := (evE_ok h0).1
  have hle := hok.le
  have d0 : decide ((b : Int) < 0) = false := by simp
  have d1 : decide (p.cells.length ≤ b) = false := decide_eq_false (by omega)
  have HP := Lib.hid (fun (x : Nat) (hx : x < p.wt.length) (W : World) (hb : Below w.heap.size w W) => rPost_any p _ b x s W (hM.below hb hb.size) hok h1 hx hs)
  have HLN := Lib.hid (postL_len p b s)
  have HTK := Lib.hid (fun k (hk : k < p.wt.length) => postL_take p b s hk)
  obtain ⟨i0, hi, hz0, hz1, hz2⟩ := info_parts Tryd.infoFr
  clear hM hv hr h0 h1 hok hs
  generalize postL p b s = PL at *
  unfold frV at HP
  generalize postN p b = pn at *
  generalize p.wt.length = n at *
  generalize p.cells.length = m at *
  unfold GivesFE
  rw [HLN.out]
  go_enter Tryd.func25, Tryd.ntmps25
  go_wp2_with fail
  refine (HC.out).mono ?_
  rintro e w2 ⟨rfl, hb⟩
  have HPB2 := Lib.hid (HPB.out.below hb HPB.out.lt)
  have b0 := HPB2.out.c0
  have b1 := HPB2.out.c1
  have HB2 := Lib.hid (HB1.out.trans (hb.mono HB1.out.size))
  have hsz2 := HPB2.out.lt
  clear hb
  go_wp2
  go_loopw [9, 10] (fun o i wr => ∃ k : Nat, k ≤ n ∧ i = .int .i64 (k : Int) ∧ wr.ownsRow (w.heap.size + 1) 41 2 o k (frs (PL.take k)) ∧ Hid (Below w.heap.size w wr ∧ PBox wr w.heap.size (.slice A1 n c1) (.slice A2 m c2)) ∧ w.heap.size + 1 ≤ wr.heap.size) (fun _ i _ => n - (intOf i).toNat)
  case atStart => exact ⟨0, Nat.zero_le _, rfl, World.ownsRow_nil _ _ _ _, Lib.hid ⟨HB2.out, HPB2.out⟩, hsz2⟩
  case round =>
    clear b0 b1
    obtain ⟨k, hk, rfl, hown, HI, hszr⟩ := hrel
    have b0 := HI.out.2.c0
    have b1 := HI.out.2.c1
    by_cases hlt : k < n
    · have HPK := Lib.hid (HP.out k hlt wr HI.out.1)
      have HT := Lib.hid (HTK.out k hlt)
      have HO := Lib.hid hown
      clear hown
      generalize pn k s = q at *
      obtain ⟨q1, q2⟩ := q
      dsimp only at HPK
      go_wp2_with fail
      refine (HPK.out).mono ?_
      rintro e w5 ⟨rfl, hb5⟩
      have hown : w5.ownsRow (w.heap.size + 1) 41 2 _ k (frs (PL.take k)) := own_keep1 HO.out (fun g hg => hb5.block g (HO.out.lt g hg).2)
      have HB5 := Lib.hid (belowNext HI.out.1 hb5)
      have HPB5 := Lib.hid (HI.out.2.below hb5 HI.out.2.lt)
      have hsz5 : w.heap.size + 1 ≤ w5.heap.size := Nat.le_trans hszr hb5.size
      clear hb5 b0 b1
      go_wp2_with (at_builtin; refine wpList_append_own _ rfl _ _ 44 rfl (w.heap.size + 1) 41 i0 (.agg #[.int .i64 0, .int .i64 0]) 2 16 Tryd.underlying44 hi hz0 hz1 hz2 rfl (by decide) _ _ _ rfl (hown.alloc _) ⟨w5.heap.size, 0, none⟩ 1 1 [.int .i64 (q1 : Int), .int .i64 (q2 : Int)] rfl rfl ?c1 ?c2 ?c3 ?c4 ?c5 ?_)
      case c1 =>
        intro j u hj
        match j, hj with
        | 0, hj => simp at hj; subst hj; simp [Addr.add]
        | 1, hj => simp at hj; subst hj; simp [Addr.add]
      case c2 => intro u hu; simp at hu; rcases hu with rfl | rfl <;> rfl
      case c3 => unfold maxLen; omega
      case c4 => omega
      case c5 => simp; omega
      · intro v' w6 hown' hgrow _
        have hb6 : Below (w.heap.size + 1) w5 w6 := ((Below.refl _ w5).alloc hsz5 _).grown hgrow (by simp; omega) (fun j hj => (hown.lt j hj).1)
        have HB6 := Lib.hid (HB5.out.trans (hb6.mono (Nat.le_succ _)))
        have HPB6 := Lib.hid (HPB5.out.below hb6 (Nat.lt_succ_self _))
        have hsz6 := hb6.size
        have HO6 : Hid (w6.ownsRow (w.heap.size + 1) 41 2 v' (k + 1) (frs (PL.take (k + 1)))) := Lib.hid (by rw [HT.out, frs_append]; exact hown')
        clear hgrow hown hown' hb6
        go_wp2
        go_roundw
        case rel => exact ⟨k + 1, by omega, by go_num, HO6.out, Lib.hid ⟨HB6.out, HPB6.out⟩, by omega⟩
        case measure => first | (simp [intOf]; done) | (simp [intOf]; omega)
    · obtain rfl : k = n := by omega
      rw [List.take_of_length_le (by rw [HLN.out]; exact Nat.le_refl _)] at hown
      obtain ⟨A, c, rfl, hR⟩ := own_readsF hown
      have HR := Lib.hid hR
      clear hR hown
      go_wp2
      go_ret2
      exact ⟨A, c, rfl, HR.out, HI.out.1⟩
set_option maxHeartbeats 2000000 in
theorem rPostsE_any (p : Pri) (v : Value) (a : Int) (s : Nat) (w : World) (hM : PrR w w.heap.size v p) (hs : s < 18446744073709551616) :
    Calls Tryd.prog 25 #[v, .int .i64 a, .int .u64 (s : Int)] w (GivesFE (postsL p a s) (postsE p a s) w) := by
  by_cases h0 : evE p s = 0
  · by_cases h1 : 0 ≤ a ∧ a < p.cells.length
    · have HE : postsE p a s = 0 := by unfold postsE; rw [if_pos h0, if_pos h1]
      have HL : postsL p a s = postL p a.toNat s := by unfold postsL; rw [if_pos HE]
      obtain ⟨b, rfl⟩ := Int.eq_ofNat_of_zero_le h1.1
      rw [HE, HL]
      exact rPostsE_ok p v b s w hM h0 (by omega) hs
    · obtain ⟨A1, c1, A2, c2, rfl, hv, hr⟩ := hM.ex
      have HB1 : Hid (Below w.heap.size w (w.alloc (.cells #[.slice A1 p.wt.length c1, .slice A2 p.cells.length c2] 25))) := Lib.hid ((Below.refl _ w).alloc (Nat.le_refl _) _)
      have HPB := Lib.hid (PBox.made w (.slice A1 p.wt.length c1) (.slice A2 p.cells.length c2))
      have HC := Lib.hid (rEv_any p _ s _ (hM.step HB1.out) hs)
      rw [h0] at HC
      have HE : Hid (postsE p a s = 2) := Lib.hid (by unfold postsE; rw [if_pos h0, if_neg h1])
      have HL : Hid (postsL p a s = []) := Lib.hid (by unfold postsL; rw [if_neg (by rw [HE.out]; decide)])
      clear hM hv hr h0 hs
      rw [HE.out, HL.out]
      clear HE HL
      generalize p.wt.length = n at *
      generalize p.cells.length = m at *
      by_cases h2 : a < 0
      · have d0 : decide (a < 0) = true := decide_eq_true h2
        clear h1 h2
        go_enter Tryd.func25, Tryd.ntmps25
        go_wp2_with fail
        refine (HC.out).mono ?_
        rintro e w2 ⟨rfl, hb⟩
        have HB2 := Lib.hid (HB1.out.trans (hb.mono HB1.out.size))
        clear hb
        go_wp2
        go_ret2
        exact GivesFE.none_ HB2.out
      · have d0 : decide (a < 0) = false := decide_eq_false h2
        have d1 : decide ((m : Int) ≤ a) = true := decide_eq_true (by omega)
        clear h1 h2
        go_enter Tryd.func25, Tryd.ntmps25
        go_wp2_with fail
        refine (HC.out).mono ?_
        rintro e w2 ⟨rfl, hb⟩
        have HPB2 := HPB.out.below hb HPB.out.lt
        have b0 := HPB2.c0
        have b1 := HPB2.c1
        have HB2 := Lib.hid (HB1.out.trans (hb.mono HB1.out.size))
        clear hb HPB2
        go_wp2
        go_ret2
        exact GivesFE.none_ HB2.out
  · obtain ⟨A1, c1, A2, c2, rfl, hv, hr⟩ := hM.ex
    have HB1 : Hid (Below w.heap.size w (w.alloc (.cells #[.slice A1 p.wt.length c1, .slice A2 p.cells.length c2] 25))) := Lib.hid ((Below.refl _ w).alloc (Nat.le_refl _) _)
    have HPB := Lib.hid (PBox.made w (.slice A1 p.wt.length c1) (.slice A2 p.cells.length c2))
    have HC := Lib.hid (rEv_any p _ s _ (hM.step HB1.out) hs)
    have HE : Hid (postsE p a s = evE p s) := Lib.hid (by unfold postsE; rw [if_neg h0])
    have HL : Hid (postsL p a s = []) := Lib.hid (by unfold postsL; rw [if_neg (by rw [HE.out]; exact h0)])
    have hz : (evE p s != 0) = true := by rw [bne_iff_ne]; exact h0
    clear hM hv hr h0 hs
    rw [HE.out, HL.out]
    clear HE HL
    generalize evE p s = E at *
    generalize p.wt.length = n at *
    generalize p.cells.length = m at *
    go_enter Tryd.func25, Tryd.ntmps25
    go_wp2_with fail
    refine (HC.out).mono ?_
    rintro e w2 ⟨rfl, hb⟩
    have HB2 := Lib.hid (HB1.out.trans (hb.mono HB1.out.size))
    clear hb
    go_wp2
    go_ret2
    exact GivesFE.none_ HB2.out
end Go.Proofs.YtfbgabcdeecpoaaDoor
