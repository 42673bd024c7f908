/- Layer 24: announcements and rounds by the reference. -/
import Derived.Test.YtfbgabcdeecpoaaDoorNMp
namespace Go.Proofs.YtfbgabcdeecpoaaDoor
open Go.RowKit Go.Proofs.Ws
set_option maxRecDepth 100000
theorem divP_snoc (p : Pri) (ks : List (List Int)) (k : List Int) : divP (divP p ks) [k] = divP p (ks ++ [k]) := by
  refine pri_eq rfl ?_
  show (p.cells.map (fun c => divC c ks)).map (fun c => divC c [k]) = p.cells.map (fun c => divC c (ks ++ [k]))
  rw [List.map_map]
  refine List.map_congr_left fun c _ => ?_
  show divC (divC c ks) [k] = _
  rw [divC_snoc]
  rfl
theorem divP_nil (p : Pri) : divP p [] = p := by
  refine pri_eq rfl ?_
  show p.cells.map (fun c => divC c []) = p.cells
  have : (fun c : List Int => divC c []) = id := by funext c; rfl
  rw [this, List.map_id]
/-- what is told by the first a agents -/
def rdk (p : Pri) (s a : Nat) : Pri := divP p ((tellsL p s).take a)
theorem rdk_zero (p : Pri) (s : Nat) : rdk p s 0 = p := by unfold rdk; rw [List.take_zero, divP_nil]
theorem rdk_succ (p : Pri) (s : Nat) {a : Nat} (h : a < p.cells.length) : divP (rdk p s a) [tellK p a s] = rdk p s (a + 1) := by
  unfold rdk
  rw [divP_snoc, List.take_succ_eq_append_getElem (by unfold tellsL; simpa using h)]
  congr 2
  unfold tellsL
  simp
theorem rdk_full (p : Pri) (s : Nat) : rdk p s p.cells.length = rndP p s := by
  unfold rdk
  rw [List.take_of_length_le (by unfold tellsL; simp)]
  rfl
set_option maxHeartbeats 4000000 in
theorem rAnnounce_any (p : Pri) (a : Int) (s : Nat) (v : Value) (w : World) (hM : PrR w w.heap.size v p) (hs : s < 18446744073709551616) :
    Calls Tryd.prog 30 #[v, .int .i64 a, .int .u64 (s : Int)] w (GivesPE (annV p a s) (postsE p a s) w) := by
  have HC := Lib.hid (fun (W : World) (hb : Below w.heap.size w W) => rEv_any p v s W (hM.below hb hb.size) hs)
  by_cases h0 : evE p s = 0
  · rw [h0] at HC
    by_cases h1 : 0 ≤ a ∧ a < p.cells.length
    · have hE : postsE p a s = 0 := by unfold postsE; rw [if_pos h0, if_pos h1]
      have hok := (evE_ok h0).1
      have HV : annV p a s = annP p a.toNat s := by unfold annV; rw [if_pos hE]
      obtain ⟨k, rfl⟩ := Int.eq_ofNat_of_zero_le h1.1
      rw [HV, hE]
      rw [show ((k : Nat) : Int).toNat = k from rfl]
      have d0 : decide ((k : Int) < 0) = false := by simp
      have d1 : decide (p.cells.length ≤ k) = false := decide_eq_false (by omega)
      have HDV := Lib.hid (fun (W : World) (hb : Below w.heap.size w W) => rDivide_any p p k s v v W (hM.below hb hb.size) (hM.below hb hb.size) hok h0 rfl (by omega) hs)
      have HRP : Hid (divP p [tellK p k s] = annP p k s) := Lib.hid rfl
      rw [HRP.out] at HDV
      have HOK : Hid (OkP (annP p k s)) := Lib.hid (hok.div _)
      obtain ⟨A1, c1, A2, c2, rfl, hv, hr⟩ := hM.ex
      have HB1 : Hid (Below w.heap.size w ((w.alloc (.cells #[.slice A1 p.wt.length c1, .slice A2 p.cells.length c2] 25)).alloc (.cells #[.slice none 0 0, .slice none 0 0] 25))) := Lib.hid (((Below.refl _ w).alloc (Nat.le_refl _) _).alloc (by simp) _)
      have HPB : Hid (PBox ((w.alloc (.cells #[.slice A1 p.wt.length c1, .slice A2 p.cells.length c2] 25)).alloc (.cells #[.slice none 0 0, .slice none 0 0] 25)) w.heap.size (.slice A1 p.wt.length c1) (.slice A2 p.cells.length c2)) := Lib.hid ((Below.heap_alloc _ _ _ (PBox.made w _ _).lt).trans (PBox.made w _ _))
      have HPR : Hid (PBox ((w.alloc (.cells #[.slice A1 p.wt.length c1, .slice A2 p.cells.length c2] 25)).alloc (.cells #[.slice none 0 0, .slice none 0 0] 25)) (w.heap.size + 1) (.slice none 0 0) (.slice none 0 0)) := Lib.hid (by
        have := PBox.made (w.alloc (.cells #[.slice A1 p.wt.length c1, .slice A2 p.cells.length c2] 25)) (.slice none 0 0) (.slice none 0 0)
        simpa using this)
      clear hM hv hr h0 h1 hE HV hs hok HRP
      generalize annP p k s = RP at *
      generalize p.wt.length = n at *
      generalize p.cells.length = m at *
      go_enter Tryd.func30, Tryd.ntmps30
      go_wp2_with fail
      generalize (w.alloc (.cells #[.slice A1 n c1, .slice A2 m c2] 25)).alloc (.cells #[.slice none 0 0, .slice none 0 0] 25) = w1 at *
      refine (HC.out _ HB1.out).mono ?_
      rintro e w2 ⟨rfl, hb⟩
      have HP2 := Lib.hid (HPB.out.below hb HPB.out.lt)
      have HR2 := Lib.hid (HPR.out.below hb HPR.out.lt)
      have HB2 := Lib.hid (belowNext HB1.out hb)
      have b0 := HP2.out.c0
      have b1 := HP2.out.c1
      clear hb
      go_wp2_with fail
      refine (HDV.out _ HB2.out).mono ?_
      rintro e w4 ⟨v', rfl, hO, hb4⟩
      have HR4 := Lib.hid (HR2.out.below hb4 HR2.out.lt)
      have HB4 := Lib.hid (belowNext HB2.out hb4)
      have hszw := HB2.out.size
      obtain ⟨V1, V2, rfl, h1, h2⟩ := hO.ex
      obtain ⟨g1, d1', rfl, hg1, hJ1⟩ := id h1
      obtain ⟨A5, c5, rfl⟩ : ∃ AR cR, V2 = .slice AR RP.cells.length cR := by
        obtain ⟨vs, h, _⟩ := h2
        exact own_sl h
      have HO := Lib.hid h1
      have HO2 := Lib.hid h2
      clear h1 h2 hO hb4 hJ1 b0 b1
      have r0 := HR4.out.c0
      have r1 := HR4.out.c1
      have f0 := HR4.out.free 0
      have f1 := HR4.out.free 1
      go_wp2
      have HZ := Lib.hid (HR4.out.set2 (.slice (some ⟨g1, 0, none⟩) RP.wt.length d1') (.slice A5 RP.cells.length c5))
      clear r0 r1 f0 f1
      generalize ((w4.setCell ⟨w.heap.size + 1, 0, none⟩ (.slice (some ⟨g1, 0, none⟩) RP.wt.length d1')).setCell ⟨w.heap.size + 1, 1, none⟩ (.slice A5 RP.cells.length c5)) = w7 at *
      (try simp only [Exit.inBlock, Exit.then])
      refine bodyPost_ret (ret_cellT rfl _ _ (w.heap.size + 1) _ _ _ _ rfl HZ.out.1 Tryd.underlying25 rfl (by kernel_rfl)) rfl ?_
      exact GivesPE.ok HOK.out ⟨_, _, rfl, (HO.out.only HZ.out.2 (fun cs fr => (HR4.out.noInt cs fr).2)).mono hszw, (HO2.out.only HZ.out.2 HR4.out.noInt).mono hszw⟩ (HB4.out.trans (HZ.out.2.below (Nat.le_succ _) HB4.out.size))
    · have hE : postsE p a s = 2 := by unfold postsE; rw [if_pos h0, if_neg h1]
      have HV : annV p a s = pri0 := by unfold annV; rw [if_neg (by rw [hE]; decide)]
      rw [HV, hE]
      have HNE : Hid ((2 : Int) ≠ 0) := Lib.hid (by decide)
      obtain ⟨A1, c1, A2, c2, rfl, hv, hr⟩ := hM.ex
      have HB1 : Hid (Below w.heap.size w ((w.alloc (.cells #[.slice A1 p.wt.length c1, .slice A2 p.cells.length c2] 25)).alloc (.cells #[.slice none 0 0, .slice none 0 0] 25))) := Lib.hid (((Below.refl _ w).alloc (Nat.le_refl _) _).alloc (by simp) _)
      have HPB : Hid (PBox ((w.alloc (.cells #[.slice A1 p.wt.length c1, .slice A2 p.cells.length c2] 25)).alloc (.cells #[.slice none 0 0, .slice none 0 0] 25)) w.heap.size (.slice A1 p.wt.length c1) (.slice A2 p.cells.length c2)) := Lib.hid ((Below.heap_alloc _ _ _ (PBox.made w _ _).lt).trans (PBox.made w _ _))
      have HPR : Hid (PBox ((w.alloc (.cells #[.slice A1 p.wt.length c1, .slice A2 p.cells.length c2] 25)).alloc (.cells #[.slice none 0 0, .slice none 0 0] 25)) (w.heap.size + 1) (.slice none 0 0) (.slice none 0 0)) := Lib.hid (by
        have := PBox.made (w.alloc (.cells #[.slice A1 p.wt.length c1, .slice A2 p.cells.length c2] 25)) (.slice none 0 0) (.slice none 0 0)
        simpa using this)
      clear hM hv hr h0 HV hs hE
      generalize p.wt.length = n at *
      generalize p.cells.length = m at *
      by_cases h2 : a < 0
      · have d0 : decide (a < 0) = true := decide_eq_true h2
        clear h1 h2
        go_enter Tryd.func30, Tryd.ntmps30
        go_wp2_with fail
        generalize (w.alloc (.cells #[.slice A1 n c1, .slice A2 m c2] 25)).alloc (.cells #[.slice none 0 0, .slice none 0 0] 25) = w1 at *
        refine (HC.out _ HB1.out).mono ?_
        rintro e w2 ⟨rfl, hb⟩
        have HP2 := Lib.hid (HPB.out.below hb HPB.out.lt)
        have HR2 := Lib.hid (HPR.out.below hb HPR.out.lt)
        have HB2 := Lib.hid (belowNext HB1.out hb)
        have b0 := HP2.out.c0
        have b1 := HP2.out.c1
        have f0 := HR2.out.free 0
        have f1 := HR2.out.free 1
        have y0 := HR2.out.c0
        have y1 := HR2.out.c1
        clear hb
        go_wp2
        have HZ := Lib.hid (HR2.out.set2 (.slice none 0 0) (.slice none 0 0))
        clear f0 f1 y0 y1
        generalize ((w2.setCell ⟨w.heap.size + 1, 0, none⟩ (.slice none 0 0)).setCell ⟨w.heap.size + 1, 1, none⟩ (.slice none 0 0)) = w7 at *
        (try simp only [Exit.inBlock, Exit.then])
        refine bodyPost_ret (ret_cellT rfl _ _ (w.heap.size + 1) _ _ _ _ rfl HZ.out.1 Tryd.underlying25 rfl (by kernel_rfl)) rfl ?_
        exact GivesPE.bad HNE.out (HB2.out.trans (HZ.out.2.below (Nat.le_succ _) HB2.out.size))
      · have d0 : decide (a < 0) = false := decide_eq_false h2
        have d1 : decide ((m : Int) ≤ a) = true := decide_eq_true (by omega)
        clear h1 h2
        go_enter Tryd.func30, Tryd.ntmps30
        go_wp2_with fail
        generalize (w.alloc (.cells #[.slice A1 n c1, .slice A2 m c2] 25)).alloc (.cells #[.slice none 0 0, .slice none 0 0] 25) = w1 at *
        refine (HC.out _ HB1.out).mono ?_
        rintro e w2 ⟨rfl, hb⟩
        have HP2 := Lib.hid (HPB.out.below hb HPB.out.lt)
        have HR2 := Lib.hid (HPR.out.below hb HPR.out.lt)
        have HB2 := Lib.hid (belowNext HB1.out hb)
        have b0 := HP2.out.c0
        have b1 := HP2.out.c1
        have f0 := HR2.out.free 0
        have f1 := HR2.out.free 1
        have y0 := HR2.out.c0
        have y1 := HR2.out.c1
        clear hb
        go_wp2
        have HZ := Lib.hid (HR2.out.set2 (.slice none 0 0) (.slice none 0 0))
        clear f0 f1 y0 y1
        generalize ((w2.setCell ⟨w.heap.size + 1, 0, none⟩ (.slice none 0 0)).setCell ⟨w.heap.size + 1, 1, none⟩ (.slice none 0 0)) = w7 at *
        (try simp only [Exit.inBlock, Exit.then])
        refine bodyPost_ret (ret_cellT rfl _ _ (w.heap.size + 1) _ _ _ _ rfl HZ.out.1 Tryd.underlying25 rfl (by kernel_rfl)) rfl ?_
        exact GivesPE.bad HNE.out (HB2.out.trans (HZ.out.2.below (Nat.le_succ _) HB2.out.size))
  · have hE : postsE p a s = evE p s := by unfold postsE; rw [if_neg h0]
    have HV : annV p a s = pri0 := by unfold annV; rw [if_neg (by rw [hE]; exact h0)]
    rw [HV, hE]
    have HNE := Lib.hid h0
    have hz : (evE p s != 0) = true := by rw [bne_iff_ne]; exact h0
    obtain ⟨A1, c1, A2, c2, rfl, hv, hr⟩ := hM.ex
    have HB1 : Hid (Below w.heap.size w ((w.alloc (.cells #[.slice A1 p.wt.length c1, .slice A2 p.cells.length c2] 25)).alloc (.cells #[.slice none 0 0, .slice none 0 0] 25))) := Lib.hid (((Below.refl _ w).alloc (Nat.le_refl _) _).alloc (by simp) _)
    have HPB : Hid (PBox ((w.alloc (.cells #[.slice A1 p.wt.length c1, .slice A2 p.cells.length c2] 25)).alloc (.cells #[.slice none 0 0, .slice none 0 0] 25)) w.heap.size (.slice A1 p.wt.length c1) (.slice A2 p.cells.length c2)) := Lib.hid ((Below.heap_alloc _ _ _ (PBox.made w _ _).lt).trans (PBox.made w _ _))
    have HPR : Hid (PBox ((w.alloc (.cells #[.slice A1 p.wt.length c1, .slice A2 p.cells.length c2] 25)).alloc (.cells #[.slice none 0 0, .slice none 0 0] 25)) (w.heap.size + 1) (.slice none 0 0) (.slice none 0 0)) := Lib.hid (by
      have := PBox.made (w.alloc (.cells #[.slice A1 p.wt.length c1, .slice A2 p.cells.length c2] 25)) (.slice none 0 0) (.slice none 0 0)
      simpa using this)
    clear hM hv hr h0 HV hs hE
    generalize evE p s = E at *
    generalize p.wt.length = n at *
    generalize p.cells.length = m at *
    go_enter Tryd.func30, Tryd.ntmps30
    go_wp2_with fail
    generalize (w.alloc (.cells #[.slice A1 n c1, .slice A2 m c2] 25)).alloc (.cells #[.slice none 0 0, .slice none 0 0] 25) = w1 at *
    refine (HC.out _ HB1.out).mono ?_
    rintro e w2 ⟨rfl, hb⟩
    have HP2 := Lib.hid (HPB.out.below hb HPB.out.lt)
    have HR2 := Lib.hid (HPR.out.below hb HPR.out.lt)
    have HB2 := Lib.hid (belowNext HB1.out hb)
    have b0 := HP2.out.c0
    have b1 := HP2.out.c1
    have f0 := HR2.out.free 0
    have f1 := HR2.out.free 1
    have y0 := HR2.out.c0
    have y1 := HR2.out.c1
    clear hb
    go_wp2
    have HZ := Lib.hid (HR2.out.set2 (.slice none 0 0) (.slice none 0 0))
    clear f0 f1 y0 y1
    generalize ((w2.setCell ⟨w.heap.size + 1, 0, none⟩ (.slice none 0 0)).setCell ⟨w.heap.size + 1, 1, none⟩ (.slice none 0 0)) = w7 at *
    (try simp only [Exit.inBlock, Exit.then])
    refine bodyPost_ret (ret_cellT rfl _ _ (w.heap.size + 1) _ _ _ _ rfl HZ.out.1 Tryd.underlying25 rfl (by kernel_rfl)) rfl ?_
    exact GivesPE.bad HNE.out (HB2.out.trans (HZ.out.2.below (Nat.le_succ _) HB2.out.size))
set_option maxHeartbeats 4000000 in
theorem rRoundE_any (p : Pri) (s : Nat) (v : Value) (w : World) (hM : PrR w w.heap.size v p) (hs : s < 18446744073709551616) :
    Calls Tryd.prog 32 #[v, .int .u64 (s : Int)] w (GivesPE (rndV p s) (evE p s) w) := by
  have HC := Lib.hid (fun (W : World) (hb : Below w.heap.size w W) => rEv_any p v s W (hM.below hb hb.size) hs)
  by_cases h0 : evE p s = 0
  · rw [h0] at HC
    have hok := (evE_ok h0).1
    have hag := hok.ag
    have HV : rndV p s = rndP p s := by unfold rndV; rw [if_pos h0]
    rw [HV, h0]
    have HCO : Hid (∀ W : World, Below w.heap.size w W → Calls Tryd.prog 61 #[v] W fun e w' => ∃ v', e = .returned v' ∧ PrO w' W.heap.size v' (rdk p s 0) ∧ Below W.heap.size W w') := Lib.hid (fun (W : World) (hb : Below w.heap.size w W) => by
      rw [rdk_zero p s]
      exact rCopy_any p v W (hM.below hb hb.size) hok)
    have HDV : Hid (∀ a, a < p.cells.length → ∀ (vq : Value) (W : World), Below w.heap.size w W → PrR W W.heap.size vq (rdk p s a) → Calls Tryd.prog 59 #[vq, v, .int .i64 (a : Int), .int .u64 (s : Int)] W fun e w' => ∃ v', e = .returned v' ∧ PrO w' W.heap.size v' (rdk p s (a + 1)) ∧ Below W.heap.size W w') := Lib.hid (fun a ha vq W hb hq => by
      have h := rDivide_any (rdk p s a) p a s vq v W hq (hM.below hb hb.size) (hok.div _) h0 rfl ha hs
      rw [rdk_succ p s ha] at h
      exact h)
    have HOK : Hid (∀ a, OkP (rdk p s a)) := Lib.hid (fun a => hok.div _)
    have HWL : Hid (∀ a, (rdk p s a).wt.length = p.wt.length) := Lib.hid (fun a => rfl)
    have HCLN : Hid (∀ a, (rdk p s a).cells.length = p.cells.length) := Lib.hid (fun a => by show (p.cells.map _).length = _; rw [List.length_map])
    have HFU : Hid (rdk p s p.cells.length = rndP p s) := Lib.hid (rdk_full p s)
    obtain ⟨A1, c1, A2, c2, rfl, hv, hr⟩ := hM.ex
    have HB1 : Hid (Below w.heap.size w ((w.alloc (.cells #[.slice A1 p.wt.length c1, .slice A2 p.cells.length c2] 25)).alloc (.cells #[.slice none 0 0, .slice none 0 0] 25))) := Lib.hid (((Below.refl _ w).alloc (Nat.le_refl _) _).alloc (by simp) _)
    have HPB : Hid (PBox ((w.alloc (.cells #[.slice A1 p.wt.length c1, .slice A2 p.cells.length c2] 25)).alloc (.cells #[.slice none 0 0, .slice none 0 0] 25)) w.heap.size (.slice A1 p.wt.length c1) (.slice A2 p.cells.length c2)) := Lib.hid ((Below.heap_alloc _ _ _ (PBox.made w _ _).lt).trans (PBox.made w _ _))
    have HPR : Hid (PBox ((w.alloc (.cells #[.slice A1 p.wt.length c1, .slice A2 p.cells.length c2] 25)).alloc (.cells #[.slice none 0 0, .slice none 0 0] 25)) (w.heap.size + 1) (.slice none 0 0) (.slice none 0 0)) := Lib.hid (by
      have := PBox.made (w.alloc (.cells #[.slice A1 p.wt.length c1, .slice A2 p.cells.length c2] 25)) (.slice none 0 0) (.slice none 0 0)
      simpa using this)
    clear hM hv hr h0 HV hs hok
    rw [← HFU.out]
    clear HFU
    generalize rdk p s = R at *
    generalize p.wt.length = n at *
    generalize p.cells.length = m at *
    go_enter Tryd.func32, Tryd.ntmps32
    go_wp2_with fail
    generalize (w.alloc (.cells #[.slice A1 n c1, .slice A2 m c2] 25)).alloc (.cells #[.slice none 0 0, .slice none 0 0] 25) = w1 at *
    refine (HC.out _ HB1.out).mono ?_
    rintro e w2 ⟨rfl, hb⟩
    have HP2 := Lib.hid (HPB.out.below hb HPB.out.lt)
    have HR2 := Lib.hid (HPR.out.below hb HPR.out.lt)
    have HB2 := Lib.hid (belowNext HB1.out hb)
    have b0 := HP2.out.c0
    have b1 := HP2.out.c1
    clear hb
    go_wp2_with fail
    refine (HCO.out _ HB2.out).mono ?_
    rintro e w3 ⟨v', rfl, hO3, hb3⟩
    have hO3 := hO3.mono (show w.heap.size + 2 ≤ w2.heap.size by have := HR2.out.lt; omega)
    obtain ⟨g1, d1, A5, c5, rfl⟩ := hO3.form
    rw [HWL.out, HCLN.out] at hO3
    rw [HWL.out, HCLN.out]
    have hba : Below w3.heap.size w3 (w3.alloc (.cells #[.slice (some ⟨g1, 0, none⟩) n d1, .slice A5 m c5] 25)) := (Below.refl _ w3).alloc (Nat.le_refl _) _
    have hp3 := HP2.out.below hb3 HP2.out.lt
    have hr3 := HR2.out.below hb3 HR2.out.lt
    have hGs : w.heap.size + 2 ≤ w3.heap.size := by have := hr3.lt; omega
    have HI3 := Lib.hid (⟨belowNext (belowNext HB2.out hb3) hba, hp3.below hba hp3.lt, hr3.below hba hr3.lt⟩ : _ ∧ _ ∧ _)
    have HQ3 := Lib.hid (PBox.made w3 (.slice (some ⟨g1, 0, none⟩) n d1) (.slice A5 m c5))
    have HO3 := Lib.hid (hO3.below hba)
    clear hba hp3 hr3 hO3 hb3 b0 b1
    go_wp2
    generalize w3.alloc (.cells #[.slice (some ⟨g1, 0, none⟩) n d1, .slice A5 m c5] 25) = w4 at *
    generalize w3.heap.size = G at *
    go_loopw [8] (fun i wr => ∃ (a g1 d1 : Nat) (A5 : Option Addr) (c5 : Nat), a ≤ m ∧ i = .int .i64 (a : Int) ∧ Hid ((Below w.heap.size w wr ∧ PBox wr w.heap.size (.slice A1 n c1) (.slice A2 m c2) ∧ PBox wr (w.heap.size + 1) (.slice none 0 0) (.slice none 0 0)) ∧ PBox wr G (.slice (some ⟨g1, 0, none⟩) n d1) (.slice A5 m c5) ∧ PrO wr (w.heap.size + 2) (.agg #[.slice (some ⟨g1, 0, none⟩) n d1, .slice A5 m c5]) (R a))) (fun i _ => m - (intOf i).toNat)
    case atStart => exact ⟨0, g1, d1, A5, c5, Nat.zero_le _, rfl, Lib.hid ⟨HI3.out, HQ3.out, HO3.out⟩⟩
    case round =>
      obtain ⟨a, g1, d1, A5, c5, ha, rfl, HI⟩ := hrel
      obtain ⟨⟨hI1, hI2, hI3⟩, hQ, hO⟩ := HI.out
      have b0 := hI2.c0
      have b1 := hI2.c1
      have q0 := hQ.c0
      have q1 := hQ.c1
      by_cases hlt : a < m
      · have HDK := Lib.hid (HDV.out a hlt _ wr hI1 (hO.prr (HOK.out a)))
        have hszr := hI3.lt
        clear hI1 hI2 hI3 hQ hO
        go_wp2_with fail
        refine (HDK.out).mono ?_
        rintro e w5 ⟨v5, rfl, hO5, hb5⟩
        have hO5 := hO5.mono (show w.heap.size + 2 ≤ wr.heap.size by omega)
        obtain ⟨g6, d6, A6, c6, rfl⟩ := hO5.form
        rw [HWL.out, HCLN.out] at hO5
        rw [HWL.out, HCLN.out]
        have hQ5 := HI.out.2.1.below hb5 HI.out.2.1.lt
        have y0 := hQ5.c0
        have y1 := hQ5.c1
        have f0 := hQ5.free 0
        have f1 := hQ5.free 1
        have hset := hQ5.set2 (.slice (some ⟨g6, 0, none⟩) n d6) (.slice A6 m c6)
        have hp5 := HI.out.1.2.1.below hb5 HI.out.1.2.1.lt
        have hr5 := HI.out.1.2.2.below hb5 HI.out.1.2.2.lt
        have hB5 := belowNext HI.out.1.1 hb5
        have hGne : w.heap.size ≠ G ∧ w.heap.size + 1 ≠ G ∧ w.heap.size ≤ G := by omega
        obtain ⟨U1, U2, eU, hU1, hU2⟩ := hO5.ex
        have HZ := Lib.hid (⟨⟨hB5.trans (hset.2.below hGne.2.2 hB5.size), hp5.other hset.2 hGne.1, hr5.other hset.2 hGne.2.1⟩, hset.1, ⟨U1, U2, eU, hU1.only hset.2 (fun cs fr => (hQ5.noInt cs fr).2), hU2.only hset.2 hQ5.noInt⟩⟩ : (_ ∧ _ ∧ _) ∧ _ ∧ PrO _ _ _ _)
        clear hset hp5 hr5 hB5 hU1 hU2 eU hO5 hQ5 b0 b1 q0 q1
        go_wp2
        generalize (w5.setCell ⟨G, 0, none⟩ (.slice (some ⟨g6, 0, none⟩) n d6)).setCell ⟨G, 1, none⟩ (.slice A6 m c6) = w6 at *
        go_roundw
        case rel => exact ⟨a + 1, g6, d6, A6, c6, by omega, by go_num, HZ⟩
        case measure => first | (simp [intOf]; done) | (simp [intOf]; omega)
      · obtain rfl : a = m := by omega
        have r0 := hI3.c0
        have r1 := hI3.c1
        have f0 := hI3.free 0
        have f1 := hI3.free 1
        have hset := hI3.set2 (.slice (some ⟨g1, 0, none⟩) n d1) (.slice A5 a c5)
        obtain ⟨U1, U2, eU, hU1, hU2⟩ := hO.ex
        have HZ := Lib.hid hset
        have HO := Lib.hid (⟨U1, U2, eU, (hU1.only hset.2 (fun cs fr => (hI3.noInt cs fr).2)).mono (Nat.le_add_right _ _), (hU2.only hset.2 hI3.noInt).mono (Nat.le_add_right _ _)⟩ : PrO _ w.heap.size _ (R a))
        have HB := Lib.hid (hI1.trans (hset.2.below (Nat.le_succ _) hI1.size))
        clear hset hU1 hU2 eU hI1 hI2 hI3 hQ hO
        go_wp2
        clear r0 r1 f0 f1 q0 q1
        generalize ((wr.setCell ⟨w.heap.size + 1, 0, none⟩ (.slice (some ⟨g1, 0, none⟩) n d1)).setCell ⟨w.heap.size + 1, 1, none⟩ (.slice A5 a c5)) = w7 at *
        (try simp only [Exit.inBlock, Exit.then])
        refine bodyPost_ret (ret_cellT rfl _ _ (w.heap.size + 1) _ _ _ _ rfl HZ.out.1 Tryd.underlying25 rfl (by kernel_rfl)) rfl ?_
        exact GivesPE.ok (HOK.out a) HO.out HB.out
  · have HV : rndV p s = pri0 := by unfold rndV; rw [if_neg h0]
    rw [HV]
    have HNE := Lib.hid h0
    have hz : (evE p s != 0) = true := by rw [bne_iff_ne]; exact h0
    obtain ⟨A1, c1, A2, c2, rfl, hv, hr⟩ := hM.ex
    have HB1 : Hid (Below w.heap.size w ((w.alloc (.cells #[.slice A1 p.wt.length c1, .slice A2 p.cells.length c2] 25)).alloc (.cells #[.slice none 0 0, .slice none 0 0] 25))) := Lib.hid (((Below.refl _ w).alloc (Nat.le_refl _) _).alloc (by simp) _)
    have HPB : Hid (PBox ((w.alloc (.cells #[.slice A1 p.wt.length c1, .slice A2 p.cells.length c2] 25)).alloc (.cells #[.slice none 0 0, .slice none 0 0] 25)) w.heap.size (.slice A1 p.wt.length c1) (.slice A2 p.cells.length c2)) := Lib.hid ((Below.heap_alloc _ _ _ (PBox.made w _ _).lt).trans (PBox.made w _ _))
    have HPR : Hid (PBox ((w.alloc (.cells #[.slice A1 p.wt.length c1, .slice A2 p.cells.length c2] 25)).alloc (.cells #[.slice none 0 0, .slice none 0 0] 25)) (w.heap.size + 1) (.slice none 0 0) (.slice none 0 0)) := Lib.hid (by
      have := PBox.made (w.alloc (.cells #[.slice A1 p.wt.length c1, .slice A2 p.cells.length c2] 25)) (.slice none 0 0) (.slice none 0 0)
      simpa using this)
    clear hM hv hr h0 HV hs
    generalize evE p s = E at *
    generalize p.wt.length = n at *
    generalize p.cells.length = m at *
    go_enter Tryd.func32, Tryd.ntmps32
    go_wp2_with fail
    generalize (w.alloc (.cells #[.slice A1 n c1, .slice A2 m c2] 25)).alloc (.cells #[.slice none 0 0, .slice none 0 0] 25) = w1 at *
    refine (HC.out _ HB1.out).mono ?_
    rintro e w2 ⟨rfl, hb⟩
    have HP2 := Lib.hid (HPB.out.below hb HPB.out.lt)
    have HR2 := Lib.hid (HPR.out.below hb HPR.out.lt)
    have HB2 := Lib.hid (belowNext HB1.out hb)
    have b0 := HP2.out.c0
    have b1 := HP2.out.c1
    have f0 := HR2.out.free 0
    have f1 := HR2.out.free 1
    have y0 := HR2.out.c0
    have y1 := HR2.out.c1
    clear hb
    go_wp2
    have HZ := Lib.hid (HR2.out.set2 (.slice none 0 0) (.slice none 0 0))
    clear f0 f1 y0 y1
    generalize ((w2.setCell ⟨w.heap.size + 1, 0, none⟩ (.slice none 0 0)).setCell ⟨w.heap.size + 1, 1, none⟩ (.slice none 0 0)) = w7 at *
    (try simp only [Exit.inBlock, Exit.then])
    refine bodyPost_ret (ret_cellT rfl _ _ (w.heap.size + 1) _ _ _ _ rfl HZ.out.1 Tryd.underlying25 rfl (by kernel_rfl)) rfl ?_
    exact GivesPE.bad HNE.out (HB2.out.trans (HZ.out.2.below (Nat.le_succ _) HB2.out.size))
end Go.Proofs.YtfbgabcdeecpoaaDoor
