/- Layer 6: texts joined: Yt Yu Yv Yw. -/
import Derived.Test.YtfbgabcdeecpoaaDoorNMc
import Derived.Test.YtfbgabcdeecpoaaDoorNMl
/- Layer 24: an announcement by the program. -/
namespace Go.Proofs.YtfbgabcdeecpoaaDoor
open Go.RowKit Go.Proofs.Ws
set_option maxRecDepth 100000
def pri0 : Pri := ⟨[], []⟩
def annP (p : Pri) (a s : Nat) : Pri := divP p [tellK p a s]
def annV (p : Pri) (a : Int) (s : Nat) : Pri := if postsE p a s = 0 then annP p a.toNat s else pri0
/-- a prior and an error -/
def GivesPE (q : Pri) (E : Int) (w : World) (e : Ending) (w' : World) : Prop :=
  ∃ v', e = .returned (.tuple #[v', .int .i64 E]) ∧ PrR w' w'.heap.size v' q ∧ (E = 0 → PrO w' w.heap.size v' q) ∧ Below w.heap.size w w'
theorem PrR.zero (W : World) (B : Nat) : PrR W B (.agg #[.slice none 0 0, .slice none 0 0]) pri0 := by
  have hR : Reads W B 1 none 0 (ints []) := by unfold ints; exact Reads.none_
  exact ⟨⟨none, 0, none, 0, rfl, hR, ⟨rfl, [], Reads.none_, fun j hj => absurd hj (by simp [pri0])⟩⟩, ⟨by unfold maxLen; decide, by unfold maxLen; decide⟩⟩
theorem ZsR.single {W : World} {n c : Nat} {l : List Int} {A : Option Addr} (hR : Reads W W.heap.size 1 A n (ints l)) (hn : n ≤ maxLen) :
    ZsR (W.alloc (.cells #[.slice A n c] 22)) (W.alloc (.cells #[.slice A n c] 22)).heap.size (some ⟨W.heap.size, 0, none⟩) 1 [l] := by
  have hl := hR.int_len
  have hb : Below W.heap.size W (W.alloc (.cells #[.slice A n c] 22)) := (Below.refl _ W).alloc (Nat.le_refl _) _
  refine ⟨rfl, [.slice A n c], ⟨rfl, fun _ => ⟨_, rfl, by simp, fun j u hj => ?_⟩⟩, fun j hj => ?_⟩
  · match j, hj with
    | 0, hj =>
      simp at hj
      subst hj
      rw [addr0, Lib.cell_of_heap (heap_alloc_new W _)]
      rfl
  · obtain rfl : j = 0 := by omega
    refine ⟨A, c, ?_, ?_, ?_⟩
    · show some _ = some (Value.slice A l.length c)
      rw [hl]
    · show Reads _ _ 1 A l.length (ints l)
      rw [hl]
      exact (hR.below hb).more hb.size
    · show l.length ≤ maxLen
      omega
set_option maxHeartbeats 4000000 in
theorem aAnnounce_ok (p : Pri) (a s : Nat) (v : Value) (w : World) (hM : PrR w w.heap.size v p) (h0 : postsE p (a : Int) s = 0) (hs : s < 18446744073709551616) (hT : Tab w) :
    Calls Tryd.prog 29 #[v, .int .i64 (a : Int), .int .u64 (s : Int)] w fun e w' => ∃ v', e = .returned (.tuple #[v', .int .i64 0]) ∧ PrO w' w.heap.size v' (annP p a s) ∧ Below w.heap.size w w' := by
  have hok := (postsE_ok h0).1
  have hle := hok.le
  have HDV := Lib.hid (fun (W : World) (hb : Below w.heap.size w W) AK (hK : ZsR W W.heap.size AK 1 [keysF (postL p a s)]) => aDivide_any p [tellK p a s] v AK 1 1 W (hM.below hb hb.size) hok hK (fun k hk => by
    rw [List.mem_singleton.1 hk]
    exact ⟨tellK_len p a s, tellK_wf hok.le a s⟩) (by decide))
  have HRP : Hid (divP p [tellK p a s] = annP p a s) := Lib.hid rfl
  rw [HRP.out] at HDV
  have HPL : Hid (postsL p (a : Int) s = postL p a s) := Lib.hid (by unfold postsL; rw [if_pos h0]; rfl)
  have HPO := Lib.hid (fun (W : World) (hb : Below w.heap.size w W) => aPostsE_any p v (a : Int) s W (hM.below hb hb.size) hs (hT.belowAt hb hT.2))
  rw [HPL.out, h0] at HPO
  have HLN : Hid ((postL p a s).length = p.wt.length) := Lib.hid (postL_len p a s)
  have HFE := Lib.hid (fun W A c (hR : Reads W W.heap.size 2 A p.wt.length (frs (postL p a s))) => aFirst_any (postL p a s) A p.wt.length c W hR hle)
  have HKL : Hid ((keysF (postL p a s)).length = p.wt.length) := Lib.hid (tellK_len p a s)
  obtain ⟨A1, c1, A2, c2, rfl, hv, hr⟩ := hM.ex
  have HB1 : Hid (Below w.heap.size w ((w.alloc (.cells #[.slice A1 p.wt.length c1, .slice A2 p.cells.length c2] 25)).alloc (.cells #[.slice none 0 0, .slice none 0 0] 25))) := Lib.hid (((Below.refl _ w).alloc (Nat.le_refl _) _).alloc (by simp) _)
  have HPB : Hid (PBox ((w.alloc (.cells #[.slice A1 p.wt.length c1, .slice A2 p.cells.length c2] 25)).alloc (.cells #[.slice none 0 0, .slice none 0 0] 25)) w.heap.size (.slice A1 p.wt.length c1) (.slice A2 p.cells.length c2)) := Lib.hid ((Below.heap_alloc _ _ _ (PBox.made w _ _).lt).trans (PBox.made w _ _))
  have HPR : Hid (PBox ((w.alloc (.cells #[.slice A1 p.wt.length c1, .slice A2 p.cells.length c2] 25)).alloc (.cells #[.slice none 0 0, .slice none 0 0] 25)) (w.heap.size + 1) (.slice none 0 0) (.slice none 0 0)) := Lib.hid (by
    have := PBox.made (w.alloc (.cells #[.slice A1 p.wt.length c1, .slice A2 p.cells.length c2] 25)) (.slice none 0 0) (.slice none 0 0)
    simpa using this)
  clear hM hv hr hok hs hT HRP HPL h0
  generalize keysF (postL p a s) = K at *
  generalize postL p a s = PL at *
  generalize annP p a s = RP at *
  generalize p.wt.length = n at *
  generalize p.cells.length = m at *
  go_enter Tryd.func29, Tryd.ntmps29
  go_wp2_with fail
  generalize (w.alloc (.cells #[.slice A1 n c1, .slice A2 m c2] 25)).alloc (.cells #[.slice none 0 0, .slice none 0 0] 25) = w1 at *
  refine (HPO.out _ HB1.out).mono ?_
  rintro e w2 ⟨A, c, rfl, hrd, hb⟩
  rw [HLN.out] at hrd
  rw [HLN.out]
  have HB2 := Lib.hid (belowNext HB1.out hb)
  have HP2 := Lib.hid (HPB.out.below hb HPB.out.lt)
  have HR2 := Lib.hid (HPR.out.below hb HPR.out.lt)
  have HRD := Lib.hid hrd
  have b0 := HP2.out.c0
  have b1 := HP2.out.c1
  clear hb hrd HB1 HPB HPR
  have HBX : Hid (∀ W, Below w2.heap.size w2 W → W.cell? ⟨w.heap.size, 0, none⟩ = some (.slice A1 n c1) ∧ W.cell? ⟨w.heap.size, 1, none⟩ = some (.slice A2 m c2)) := Lib.hid (fun W hb => by
    have h := HP2.out.below hb HP2.out.lt
    exact ⟨h.c0, h.c1⟩)
  have HRX : Hid (∀ W, Below w2.heap.size w2 W → PBox W (w.heap.size + 1) (.slice none 0 0) (.slice none 0 0)) := Lib.hid (fun W hb => HR2.out.below hb HR2.out.lt)
  have HF := Lib.hid (fun (W : World) (hb : Below w2.heap.size w2 W) => HFE.out W A c ((HRD.out.below hb).more hb.size))
  have HD := Lib.hid (fun (W : World) (hb : Below w2.heap.size w2 W) AK hK => HDV.out W (belowNext HB2.out hb) AK hK)
  have hd0 : Below w2.heap.size w2 w2.drew := (Below.refl _ w2).drew
  clear HFE HDV HRD HPO
  go_wp2
  go_region_with (first
    | (go_at_call 58; refine (HF.out _ ?_).mono ?_; assumption; rintro e w5 ⟨g5, rfl, hg5, hH5, hb5⟩; have hc5 : Below w2.heap.size w2 w5 := (by refine belowNext ?_ hb5; assumption); have hd5 := (HBX.out w5 hc5).1; have he5 := (HBX.out w5 hc5).2; have hR5 : Reads w5 w5.heap.size 1 (some ⟨g5, 0, none⟩) n (ints K) := (by have h := hH5.reads; rwa [HKL.out] at h); have hz5 := ZsR.single (c := n) hR5 (by unfold maxLen; omega); have hc5b : Below w2.heap.size w2 (w5.alloc (.cells #[.slice (some ⟨g5, 0, none⟩) n n] 22)) := hc5.alloc hc5.size _; have hd5b := (HBX.out _ hc5b).1; have he5b := (HBX.out _ hc5b).2; clear hb5 hH5 hR5)
    | (go_at_call 57; refine (HD.out _ ?_ _ ?_).mono ?_; assumption; assumption; rintro e w6 ⟨v', rfl, hO, hb6⟩; have hc6 : Below w2.heap.size w2 w6 := (by refine belowNext ?_ hb6; assumption); obtain ⟨V1, V2, rfl, h1, h2⟩ := hO.ex; obtain ⟨g1, d1, rfl, hg1, hJ1⟩ := id h1; obtain ⟨A5, c5, rfl⟩ : ∃ AR cR, V2 = .slice AR RP.cells.length cR := (by obtain ⟨vs, h, _⟩ := h2; exact own_sl h); have r0 := (HRX.out w6 hc6).c0; have r1 := (HRX.out w6 hc6).c1; have f0 := (HRX.out w6 hc6).free 0; have f1 := (HRX.out w6 hc6).free 1; have HO := Lib.hid h1; have HO2 := Lib.hid h2; clear hb6 hO h1 h2 hJ1))
  all_goals
    have HC6 := Lib.hid hc6
    have hR6 := HRX.out w6 hc6
    have HZ := Lib.hid (hR6.set2 (.slice (some ⟨g1, 0, none⟩) RP.wt.length d1) (.slice A5 RP.cells.length c5))
    have HR6 := Lib.hid hR6
    have hszw : w.heap.size ≤ (w5.alloc (.cells #[.slice (some ⟨g5, 0, none⟩) n n] 22)).heap.size := Nat.le_trans HB2.out.size hc5b.size
    clear r0 r1 f0 f1 hc6 hR6
    generalize ((w6.setCell ⟨w.heap.size + 1, 0, none⟩ (.slice (some ⟨g1, 0, none⟩) RP.wt.length d1)).setCell ⟨w.heap.size + 1, 1, none⟩ (.slice A5 RP.cells.length c5)) = w7 at *
    go_wp2
    (try simp only [Exit.inBlock, Exit.then])
    refine bodyPost_ret (ret_cellT rfl _ _ (w.heap.size + 1) _ _ _ _ rfl HZ.out.1 Tryd.underlying25 rfl (by kernel_rfl)) rfl ?_
    have hbz := belowNext HB2.out HC6.out
    exact ⟨_, rfl, ⟨_, _, rfl, (HO.out.only HZ.out.2 (fun cs fr => (HR6.out.noInt cs fr).2)).mono hszw, (HO2.out.only HZ.out.2 HR6.out.noInt).mono hszw⟩, hbz.trans (HZ.out.2.below (Nat.le_succ _) hbz.size)⟩
end Go.Proofs.YtfbgabcdeecpoaaDoor
/- Layer 24: announcements and rounds with their errors, by the program. -/
namespace Go.Proofs.YtfbgabcdeecpoaaDoor
open Go.RowKit Go.Proofs.Ws
set_option maxRecDepth 100000
theorem GivesPE.ok {q : Pri} {w w' : World} {v' : Value} (hok : OkP q) (h : PrO w' w.heap.size v' q) (hb : Below w.heap.size w w') : GivesPE q 0 w (.returned (.tuple #[v', .int .i64 0])) w' := ⟨v', rfl, h.prr hok, fun _ => h, hb⟩
theorem GivesPE.bad {E : Int} {w w' : World} (hE : E ≠ 0) (hb : Below w.heap.size w w') : GivesPE pri0 E w (.returned (.tuple #[.agg #[.slice none 0 0, .slice none 0 0], .int .i64 E])) w' := ⟨_, rfl, PrR.zero _ _, fun h => absurd h hE, hb⟩
def rndV (p : Pri) (s : Nat) : Pri := if evE p s = 0 then rndP p s else pri0
set_option maxHeartbeats 4000000 in
theorem aAnnounce_any (p : Pri) (a : Int) (s : Nat) (v : Value) (w : World) (hM : PrR w w.heap.size v p) (hs : s < 18446744073709551616) (hT : Tab w) :
    Calls Tryd.prog 29 #[v, .int .i64 a, .int .u64 (s : Int)] w (GivesPE (annV p a s) (postsE p a s) w) := by
  by_cases h : postsE p a s = 0
  · obtain ⟨hok, _, ha, _⟩ := postsE_ok h
    have HV : annV p a s = annP p a.toNat s := by unfold annV; rw [if_pos h]
    obtain ⟨k, rfl⟩ := Int.eq_ofNat_of_zero_le ha
    rw [HV, h]
    refine (aAnnounce_ok p k s v w hM h hs hT).mono ?_
    rintro e w' ⟨v', rfl, h1, h2⟩
    exact GivesPE.ok (hok.div _) h1 h2
  · have HV : annV p a s = pri0 := by unfold annV; rw [if_neg h]
    rw [HV]
    have HC := Lib.hid (fun (W : World) (hb : Below w.heap.size w W) => aPostsE_any p v a s W (hM.below hb hb.size) hs (hT.belowAt hb hT.2))
    have HNE := Lib.hid h
    have hz : (postsE p a s != 0) = true := by rw [bne_iff_ne]; exact h
    obtain ⟨A1, c1, A2, c2, rfl, hv, hr⟩ := hM.ex
    have HB1 : Hid (Below w.heap.size w ((w.alloc (.cells #[.slice A1 p.wt.length c1, .slice A2 p.cells.length c2] 25)).alloc (.cells #[.slice none 0 0, .slice none 0 0] 25))) := Lib.hid (((Below.refl _ w).alloc (Nat.le_refl _) _).alloc (by simp) _)
    have HPB : Hid (PBox ((w.alloc (.cells #[.slice A1 p.wt.length c1, .slice A2 p.cells.length c2] 25)).alloc (.cells #[.slice none 0 0, .slice none 0 0] 25)) w.heap.size (.slice A1 p.wt.length c1) (.slice A2 p.cells.length c2)) := Lib.hid ((Below.heap_alloc _ _ _ (PBox.made w _ _).lt).trans (PBox.made w _ _))
    have HPR : Hid (PBox ((w.alloc (.cells #[.slice A1 p.wt.length c1, .slice A2 p.cells.length c2] 25)).alloc (.cells #[.slice none 0 0, .slice none 0 0] 25)) (w.heap.size + 1) (.slice none 0 0) (.slice none 0 0)) := Lib.hid (by
      have := PBox.made (w.alloc (.cells #[.slice A1 p.wt.length c1, .slice A2 p.cells.length c2] 25)) (.slice none 0 0) (.slice none 0 0)
      simpa using this)
    clear hM hv hr h HV hs hT
    generalize postsL p a s = L at *
    generalize postsE p a s = E at *
    generalize p.wt.length = n at *
    generalize p.cells.length = m at *
    go_enter Tryd.func29, Tryd.ntmps29
    go_wp2_with fail
    generalize (w.alloc (.cells #[.slice A1 n c1, .slice A2 m c2] 25)).alloc (.cells #[.slice none 0 0, .slice none 0 0] 25) = w1 at *
    refine (HC.out _ HB1.out).mono ?_
    rintro e w2 ⟨A, c, rfl, _, hb⟩
    have HP2 := Lib.hid (HPB.out.below hb HPB.out.lt)
    have HR2 := Lib.hid (HPR.out.below hb HPR.out.lt)
    have HB2 := Lib.hid (belowNext HB1.out hb)
    have b0 := HP2.out.c0
    have b1 := HP2.out.c1
    have f0 := HR2.out.free 0
    have f1 := HR2.out.free 1
    have y0 := HR2.out.c0
    have y1 := HR2.out.c1
    clear hb
    go_wp2
    have HZ := Lib.hid (HR2.out.set2 (.slice none 0 0) (.slice none 0 0))
    clear f0 f1 y0 y1
    generalize ((w2.setCell ⟨w.heap.size + 1, 0, none⟩ (.slice none 0 0)).setCell ⟨w.heap.size + 1, 1, none⟩ (.slice none 0 0)) = w7 at *
    (try simp only [Exit.inBlock, Exit.then])
    refine bodyPost_ret (ret_cellT rfl _ _ (w.heap.size + 1) _ _ _ _ rfl HZ.out.1 Tryd.underlying25 rfl (by kernel_rfl)) rfl ?_
    exact GivesPE.bad HNE.out (HB2.out.trans (HZ.out.2.below (Nat.le_succ _) HB2.out.size))
set_option maxHeartbeats 4000000 in
theorem aRoundE_any (p : Pri) (s : Nat) (v : Value) (w : World) (hM : PrR w w.heap.size v p) (hs : s < 18446744073709551616) (hT : Tab w) :
    Calls Tryd.prog 31 #[v, .int .u64 (s : Int)] w (GivesPE (rndV p s) (evE p s) w) := by
  have HC := Lib.hid (fun (W : World) (hb : Below w.heap.size w W) => aEv_any p v s W (hM.below hb hb.size) hs)
  by_cases h : evE p s = 0
  · have hok := (evE_ok h).1
    have hse := (evE_ok h).2
    have HV : rndV p s = rndP p s := by unfold rndV; rw [if_pos h]
    have HOK : Hid (OkP (rndP p s)) := Lib.hid (hok.div _)
    have HRD := Lib.hid (fun (W : World) (hb : Below w.heap.size w W) => aRound_any p s v W (hM.below hb hb.size) hok hse (hT.belowAt hb hT.2))
    rw [HV, h]
    rw [h] at HC
    obtain ⟨A1, c1, A2, c2, rfl, hv, hr⟩ := hM.ex
    have HB1 : Hid (Below w.heap.size w ((w.alloc (.cells #[.slice A1 p.wt.length c1, .slice A2 p.cells.length c2] 25)).alloc (.cells #[.slice none 0 0, .slice none 0 0] 25))) := Lib.hid (((Below.refl _ w).alloc (Nat.le_refl _) _).alloc (by simp) _)
    have HPB : Hid (PBox ((w.alloc (.cells #[.slice A1 p.wt.length c1, .slice A2 p.cells.length c2] 25)).alloc (.cells #[.slice none 0 0, .slice none 0 0] 25)) w.heap.size (.slice A1 p.wt.length c1) (.slice A2 p.cells.length c2)) := Lib.hid ((Below.heap_alloc _ _ _ (PBox.made w _ _).lt).trans (PBox.made w _ _))
    have HPR : Hid (PBox ((w.alloc (.cells #[.slice A1 p.wt.length c1, .slice A2 p.cells.length c2] 25)).alloc (.cells #[.slice none 0 0, .slice none 0 0] 25)) (w.heap.size + 1) (.slice none 0 0) (.slice none 0 0)) := Lib.hid (by
      have := PBox.made (w.alloc (.cells #[.slice A1 p.wt.length c1, .slice A2 p.cells.length c2] 25)) (.slice none 0 0) (.slice none 0 0)
      simpa using this)
    clear hM hv hr h HV hs hT hok hse
    generalize rndP p s = RP at *
    generalize p.wt.length = n at *
    generalize p.cells.length = m at *
    go_enter Tryd.func31, Tryd.ntmps31
    go_wp2_with fail
    generalize (w.alloc (.cells #[.slice A1 n c1, .slice A2 m c2] 25)).alloc (.cells #[.slice none 0 0, .slice none 0 0] 25) = w1 at *
    refine (HC.out _ HB1.out).mono ?_
    rintro e w2 ⟨rfl, hb⟩
    have HP2 := Lib.hid (HPB.out.below hb HPB.out.lt)
    have HR2 := Lib.hid (HPR.out.below hb HPR.out.lt)
    have HB2 := Lib.hid (belowNext HB1.out hb)
    have b0 := HP2.out.c0
    have b1 := HP2.out.c1
    clear hb
    go_wp2_with fail
    refine (HRD.out _ HB2.out).mono ?_
    rintro e w4 ⟨v', rfl, hO, hb4⟩
    have HR4 := Lib.hid (HR2.out.below hb4 HR2.out.lt)
    have HB4 := Lib.hid (belowNext HB2.out hb4)
    have hszw := HB2.out.size
    obtain ⟨V1, V2, rfl, h1, h2⟩ := hO.ex
    obtain ⟨g1, d1, rfl, hg1, hJ1⟩ := id h1
    obtain ⟨A5, c5, rfl⟩ : ∃ AR cR, V2 = .slice AR RP.cells.length cR := by
      obtain ⟨vs, h, _⟩ := h2
      exact own_sl h
    have HO := Lib.hid h1
    have HO2 := Lib.hid h2
    clear h1 h2 hO hb4 hJ1 b0 b1
    have r0 := HR4.out.c0
    have r1 := HR4.out.c1
    have f0 := HR4.out.free 0
    have f1 := HR4.out.free 1
    go_wp2
    have HZ := Lib.hid (HR4.out.set2 (.slice (some ⟨g1, 0, none⟩) RP.wt.length d1) (.slice A5 RP.cells.length c5))
    clear r0 r1 f0 f1
    generalize ((w4.setCell ⟨w.heap.size + 1, 0, none⟩ (.slice (some ⟨g1, 0, none⟩) RP.wt.length d1)).setCell ⟨w.heap.size + 1, 1, none⟩ (.slice A5 RP.cells.length c5)) = w7 at *
    (try simp only [Exit.inBlock, Exit.then])
    refine bodyPost_ret (ret_cellT rfl _ _ (w.heap.size + 1) _ _ _ _ rfl HZ.out.1 Tryd.underlying25 rfl (by kernel_rfl)) rfl ?_
    exact GivesPE.ok HOK.out ⟨_, _, rfl, (HO.out.only HZ.out.2 (fun cs fr => (HR4.out.noInt cs fr).2)).mono hszw, (HO2.out.only HZ.out.2 HR4.out.noInt).mono hszw⟩ (HB4.out.trans (HZ.out.2.below (Nat.le_succ _) HB4.out.size))
  · have HV : rndV p s = pri0 := by unfold rndV; rw [if_neg h]
    rw [HV]
    have HNE := Lib.hid h
    have hz : (evE p s != 0) = true := by rw [bne_iff_ne]; exact h
    obtain ⟨A1, c1, A2, c2, rfl, hv, hr⟩ := hM.ex
    have HB1 : Hid (Below w.heap.size w ((w.alloc (.cells #[.slice A1 p.wt.length c1, .slice A2 p.cells.length c2] 25)).alloc (.cells #[.slice none 0 0, .slice none 0 0] 25))) := Lib.hid (((Below.refl _ w).alloc (Nat.le_refl _) _).alloc (by simp) _)
    have HPB : Hid (PBox ((w.alloc (.cells #[.slice A1 p.wt.length c1, .slice A2 p.cells.length c2] 25)).alloc (.cells #[.slice none 0 0, .slice none 0 0] 25)) w.heap.size (.slice A1 p.wt.length c1) (.slice A2 p.cells.length c2)) := Lib.hid ((Below.heap_alloc _ _ _ (PBox.made w _ _).lt).trans (PBox.made w _ _))
    have HPR : Hid (PBox ((w.alloc (.cells #[.slice A1 p.wt.length c1, .slice A2 p.cells.length c2] 25)).alloc (.cells #[.slice none 0 0, .slice none 0 0] 25)) (w.heap.size + 1) (.slice none 0 0) (.slice none 0 0)) := Lib.hid (by
      have := PBox.made (w.alloc (.cells #[.slice A1 p.wt.length c1, .slice A2 p.cells.length c2] 25)) (.slice none 0 0) (.slice none 0 0)
      simpa using this)
    clear hM hv hr h HV hs hT
    generalize evE p s = E at *
    generalize p.wt.length = n at *
    generalize p.cells.length = m at *
    go_enter Tryd.func31, Tryd.ntmps31
    go_wp2_with fail
    generalize (w.alloc (.cells #[.slice A1 n c1, .slice A2 m c2] 25)).alloc (.cells #[.slice none 0 0, .slice none 0 0] 25) = w1 at *
    refine (HC.out _ HB1.out).mono ?_
    rintro e w2 ⟨rfl, hb⟩
    have HP2 := Lib.hid (HPB.out.below hb HPB.out.lt)
    have HR2 := Lib.hid (HPR.out.below hb HPR.out.lt)
    have HB2 := Lib.hid (belowNext HB1.out hb)
    have b0 := HP2.out.c0
    have b1 := HP2.out.c1
    have f0 := HR2.out.free 0
    have f1 := HR2.out.free 1
    have y0 := HR2.out.c0
    have y1 := HR2.out.c1
    clear hb
    go_wp2
    have HZ := Lib.hid (HR2.out.set2 (.slice none 0 0) (.slice none 0 0))
    clear f0 f1 y0 y1
    generalize ((w2.setCell ⟨w.heap.size + 1, 0, none⟩ (.slice none 0 0)).setCell ⟨w.heap.size + 1, 1, none⟩ (.slice none 0 0)) = w7 at *
    (try simp only [Exit.inBlock, Exit.then])
    refine bodyPost_ret (ret_cellT rfl _ _ (w.heap.size + 1) _ _ _ _ rfl HZ.out.1 Tryd.underlying25 rfl (by kernel_rfl)) rfl ?_
    exact GivesPE.bad HNE.out (HB2.out.trans (HZ.out.2.below (Nat.le_succ _) HB2.out.size))
end Go.Proofs.YtfbgabcdeecpoaaDoor
/- Layer 24: mathematics of exchanges: the cells are divided further until nothing changes. -/
namespace Go.Proofs.YtfbgabcdeecpoaaDoor
open Go.RowKit Go.Proofs.Ws
/-- the number of blocks -/
def blkN (n : Nat) (c : List Int) : Nat := sumN (fun i => if fo c i = i then 1 else 0) n
theorem blkN_le (n : Nat) (c : List Int) : blkN n c ≤ n := by
  have := sumN_le (f := fun i => if fo c i = i then 1 else 0) (b := 1) (k := n) (fun i _ => by split <;> omega)
  unfold blkN; omega
theorem sumN_strict {f g : Nat → Nat} : ∀ {k j : Nat}, (∀ i, i < k → f i ≤ g i) → j < k → f j < g j → sumN f k < sumN g k
  | 0, j, _, h, _ => absurd h (by omega)
  | k + 1, j, h1, h2, h3 => by
    unfold sumN
    have h4 := h1 k (by omega)
    by_cases e : j = k
    · subst e
      have := sumN_mono (f := f) (g := g) (k := j) (fun i hi => h1 i (by omega))
      omega
    · have := sumN_strict (k := k) (j := j) (fun i hi => h1 i (by omega)) (by omega) h3
      omega
theorem rf_rep {n : Nat} {q c : List Int} (hq : Can n q) (hc : Can n c) (h : Rf q c) {i : Nat} (hi : fo c i = i) : fo q i = i := by
  have h1 := h i
  rw [hi] at h1
  have h2 := (part_forest hc.ok).le (fo q i)
  have h3 := (part_forest hq.ok).le i
  omega
theorem blkN_mono {n : Nat} {q c : List Int} (hq : Can n q) (hc : Can n c) (h : Rf q c) : blkN n c ≤ blkN n q := by
  refine sumN_mono fun i _ => ?_
  by_cases e : fo c i = i
  · rw [if_pos e, if_pos (rf_rep hq hc h e)]; exact Nat.le_refl _
  · rw [if_neg e]; exact Nat.zero_le _
theorem blkN_strict {n : Nat} {q c : List Int} (hq : Can n q) (hc : Can n c) (h : Rf q c) (hne : q ≠ c) : blkN n c < blkN n q := by
  have hex : ∃ i, i < n ∧ fo q i ≠ fo c i := by
    apply Classical.byContradiction
    intro hn
    refine hne (hq.ext hc (fun i => ?_))
    by_cases hi : i < n
    · exact Classical.byContradiction fun h5 => hn ⟨i, hi, h5⟩
    · rw [fo_out hq.len hi, fo_out hc.len hi]
  obtain ⟨i, hi, hd⟩ := hex
  have hj : fo q i < n := Nat.lt_of_le_of_lt ((part_forest hq.ok).le i) hi
  refine sumN_strict (j := fo q i) (fun i _ => ?_) hj ?_
  · by_cases e : fo c i = i
    · rw [if_pos e, if_pos (rf_rep hq hc h e)]; exact Nat.le_refl _
    · rw [if_neg e]; exact Nat.zero_le _
  · rw [if_neg, if_pos (hq.idem i)]
    · exact Nat.zero_lt_one
    · intro e
      rw [h i] at e
      exact hd e.symm
theorem divC_rf {n : Nat} (hn : n ≤ 64) : ∀ (ks : List (List Int)) {c : List Int}, Can n c → Rf (divC c ks) c
  | [], _, h => h.refl
  | k :: ks, c, h => by
    show Rf (divC (canonL c k) ks) c
    exact (divC_rf hn ks (canon_can h.len hn)).trans (meet_l h)
/-- the number of all blocks -/
def blkL (n : Nat) : List (List Int) → Nat
  | [] => 0
  | c :: l => blkN n c + blkL n l
theorem blkL_le (n : Nat) : ∀ l : List (List Int), blkL n l ≤ n * l.length
  | [] => Nat.le_refl _
  | c :: l => by
    have h1 := blkL_le n l
    have h2 := blkN_le n c
    rw [blkL, List.length_cons, Nat.mul_succ]; omega
theorem blkL_div {n : Nat} (hn : n ≤ 64) (ks : List (List Int)) : ∀ l : List (List Int), (∀ c ∈ l, Can n c) → blkL n l ≤ blkL n (l.map (fun c => divC c ks)) ∧ (l.map (fun c => divC c ks) ≠ l → blkL n l < blkL n (l.map (fun c => divC c ks)))
  | [], _ => ⟨Nat.le_refl _, fun h => absurd rfl h⟩
  | c :: l, h => by
    have ih := blkL_div hn ks l (fun d hd => h d (List.mem_cons_of_mem _ hd))
    have hc := h c (List.mem_cons_self ..)
    have hd := divC_can hn ks hc
    have hr := divC_rf hn ks hc
    have h1 := blkN_mono hd hc hr
    rw [List.map_cons, blkL, blkL]
    refine ⟨by omega, fun hne => ?_⟩
    by_cases e : divC c ks = c
    · have h2 := ih.2 (fun e2 => hne (by rw [e, e2]))
      omega
    · have h2 := blkN_strict hd hc hr e
      omega
/-- the priors of an exchange -/
def exN (p : Pri) (s : Nat) : Nat → Pri
  | 0 => p
  | k + 1 => rndP (exN p s k) s
theorem exN_ok {p : Pri} (h : OkP p) (s : Nat) : ∀ k, OkP (exN p s k)
  | 0 => h
  | k + 1 => (exN_ok h s k).div _
theorem exN_wt (p : Pri) (s : Nat) : ∀ k, (exN p s k).wt = p.wt
  | 0 => rfl
  | k + 1 => exN_wt p s k
theorem exN_cells (p : Pri) (s : Nat) : ∀ k, (exN p s k).cells.length = p.cells.length
  | 0 => rfl
  | k + 1 => by
    show ((exN p s k).cells.map _).length = _
    rw [List.length_map]
    exact exN_cells p s k
theorem exN_grow {p : Pri} (h : OkP p) (s : Nat) (k : Nat) (hne : (exN p s (k + 1)).cells ≠ (exN p s k).cells) : blkL p.wt.length (exN p s k).cells < blkL p.wt.length (exN p s (k + 1)).cells := by
  have hk := exN_ok h s k
  have e := exN_wt p s k
  refine (blkL_div h.le (tellsL (exN p s k) s) (exN p s k).cells (fun c hc => ?_)).2 hne
  have := hk.c c hc
  rwa [e] at this
theorem exN_bound {p : Pri} (h : OkP p) (s : Nat) : ∀ k, (∀ j, j < k → (exN p s (j + 1)).cells ≠ (exN p s j).cells) → k ≤ blkL p.wt.length (exN p s k).cells
  | 0, _ => Nat.zero_le _
  | k + 1, hd => by
    have h1 := exN_bound h s k (fun j hj => hd j (by omega))
    have h2 := exN_grow h s k (hd k (by omega))
    omega
theorem blk_le {p : Pri} (s k : Nat) : blkL p.wt.length (exN p s k).cells ≤ p.wt.length * p.cells.length := by
  have := blkL_le p.wt.length (exN p s k).cells
  rwa [exN_cells] at this
theorem blk_256 {p : Pri} (h : OkP p) (s k : Nat) : blkL p.wt.length (exN p s k).cells ≤ 256 := by
  have h1 := blk_le (p := p) s k
  have h2 : p.wt.length * p.cells.length ≤ 64 * 4 := Nat.mul_le_mul h.le h.ag
  omega
/-- an exchange has k priors -/
structure ExK (p : Pri) (s k : Nat) : Prop where
  pos : 1 ≤ k
  diff : ∀ j, j + 1 < k → (exN p s (j + 1)).cells ≠ (exN p s j).cells
  stop : (exN p s k).cells = (exN p s (k - 1)).cells
theorem ExK.unique {p : Pri} {s k l : Nat} (h : ExK p s k) (h2 : ExK p s l) : k = l := by
  have hp := h.pos
  have hp2 := h2.pos
  rcases Nat.lt_trichotomy k l with h3 | h3 | h3
  · have h4 := h2.diff (k - 1) (by omega)
    rw [show k - 1 + 1 = k by omega] at h4
    exact absurd h.stop h4
  · exact h3
  · have h4 := h.diff (l - 1) (by omega)
    rw [show l - 1 + 1 = l by omega] at h4
    exact absurd h2.stop h4
theorem pri_eq {a b : Pri} (h1 : a.wt = b.wt) (h2 : a.cells = b.cells) : a = b := by
  obtain ⟨_, _⟩ := a
  obtain ⟨_, _⟩ := b
  simp at h1 h2
  rw [h1, h2]
theorem ExK.fix {p : Pri} {s k : Nat} (h : ExK p s k) : rndP (exN p s (k - 1)) s = exN p s (k - 1) := by
  have h1 := h.stop
  have e : exN p s k = rndP (exN p s (k - 1)) s := by
    have := h.pos
    obtain ⟨j, rfl⟩ : ∃ j, k = j + 1 := ⟨k - 1, by omega⟩
    rfl
  rw [e] at h1
  exact pri_eq rfl h1
/-! a set of worlds that is a union of an agent's cells -/
/-- the weight of the worlds of a set that is given by a test -/
def wT (wt : List Int) (t : Nat → Bool) (k : Nat) : Nat := sumN (fun i => if t i = true then (wt.getD i 0).toNat else 0) k
theorem blk_test {n : Nat} {c : List Int} (h : Can n c) {i v : Nat} (hi : i < n) (hv : v < n) : (blkV c (i : Int)).testBit v = decide (fo c v = fo c i) := by
  rw [Bool.eq_iff_iff, blk_bit h hi, decide_eq_true_eq]
  exact ⟨fun h => h.2, fun h => ⟨hv, h⟩⟩
/-- the mean: where all cells of a union give an event the share a/b, the union does -/
theorem mean_cells {wt : List Int} {n : Nat} (hn : wt.length = n) {c : List Int} (hc : Can n c) (E : Nat) (J : Nat → Bool) (a b : Nat)
    (hcl : ∀ u v, u < n → v < n → J u = true → fo c v = fo c u → J v = true)
    (hp : ∀ u, u < n → J u = true → wOf wt (blkV c (u : Int) &&& E) * b = a * wOf wt (blkV c (u : Int))) :
    wT wt (fun i => J i && E.testBit i) n * b = a * wT wt J n := by
  have hlt : ∀ i, i < n → fo c i < n := fun i hi => Nat.lt_of_le_of_lt ((part_forest hc.ok).le i) hi
  have g1 := sumN_group (fun i => if (J i && E.testBit i) = true then (wt.getD i 0).toNat else 0) (fo c) n n hlt
  have g2 := sumN_group (fun i => if J i = true then (wt.getD i 0).toNat else 0) (fo c) n n hlt
  unfold wT
  rw [← g1, ← g2, ← sumN_mul, Nat.mul_comm a, ← sumN_mul]
  refine sumN_congr fun r hr => ?_
  by_cases hex : ∃ u, u < n ∧ J u = true ∧ fo c u = r
  · obtain ⟨u, hu, hJ, rfl⟩ := hex
    have h1 : sumN (fun i => if fo c i = fo c u then (if (J i && E.testBit i) = true then (wt.getD i 0).toNat else 0) else 0) n = wOf wt (blkV c (u : Int) &&& E) := by
      unfold wOf wsum
      rw [hn]
      refine sumN_congr fun i hi => ?_
      unfold wAt
      rw [Nat.testBit_and, blk_test hc hu hi]
      by_cases e : fo c i = fo c u
      · have hJi := hcl u i hu hi hJ e
        rw [if_pos e, hJi, decide_eq_true e]
      · rw [if_neg e, decide_eq_false e]
        simp
    have h2 : sumN (fun i => if fo c i = fo c u then (if J i = true then (wt.getD i 0).toNat else 0) else 0) n = wOf wt (blkV c (u : Int)) := by
      unfold wOf wsum
      rw [hn]
      refine sumN_congr fun i hi => ?_
      unfold wAt
      rw [blk_test hc hu hi]
      by_cases e : fo c i = fo c u
      · rw [if_pos e, if_pos (hcl u i hu hi hJ e), decide_eq_true e, if_pos rfl]
      · rw [if_neg e, decide_eq_false e]
        simp
    rw [h1, h2, hp u hu hJ, Nat.mul_comm]
  · have h0 : ∀ i, i < n → fo c i = r → J i = false := fun i hi e => by
      cases h : J i
      · rfl
      · exact absurd ⟨i, hi, h, e⟩ hex
    have z1 : sumN (fun i => if fo c i = r then (if (J i && E.testBit i) = true then (wt.getD i 0).toNat else 0) else 0) n = 0 := sumN_zero fun i hi => by
      by_cases e : fo c i = r
      · rw [if_pos e, h0 i hi e]; rfl
      · rw [if_neg e]
    have z2 : sumN (fun i => if fo c i = r then (if J i = true then (wt.getD i 0).toNat else 0) else 0) n = 0 := sumN_zero fun i hi => by
      by_cases e : fo c i = r
      · rw [if_pos e, h0 i hi e]; rfl
      · rw [if_neg e]
    rw [z1, z2, Nat.zero_mul, Nat.zero_mul]
theorem redN_mul {x y : Nat} (hy : 0 < y) : x * (redN x y).2 = (redN x y).1 * y ∧ 0 < (redN x y).2 := by
  unfold redN
  have hg : 0 < Nat.gcd x y := Nat.gcd_pos_of_pos_right _ hy
  have h1 := Nat.gcd_dvd_left x y
  have h2 := Nat.gcd_dvd_right x y
  obtain ⟨u, hu⟩ := h1
  obtain ⟨v, hv⟩ := h2
  generalize Nat.gcd x y = g at *
  subst hu
  subst hv
  dsimp only
  rw [Nat.mul_div_cancel_left _ hg, Nat.mul_div_cancel_left _ hg]
  refine ⟨by rw [Nat.mul_comm g u, Nat.mul_assoc], ?_⟩
  rcases Nat.eq_zero_or_pos v with h | h
  · subst h; simp at hy
  · exact h
theorem redN_eq {x y x2 y2 : Nat} (hy : 0 < y) (hy2 : 0 < y2) (h : x * y2 = x2 * y) : redN x y = redN x2 y2 := by
  have hg : 0 < Nat.gcd x y := Nat.gcd_pos_of_pos_right _ hy
  have hg2 : 0 < Nat.gcd x2 y2 := Nat.gcd_pos_of_pos_right _ hy2
  have e1 : Nat.gcd x y * y2 = Nat.gcd x2 y2 * y := by
    rw [← Nat.gcd_mul_right, ← Nat.gcd_mul_right, h, Nat.mul_comm y y2]
  have e2 : Nat.gcd x y * x2 = Nat.gcd x2 y2 * x := by
    have : y * (Nat.gcd x y * x2) = y * (Nat.gcd x2 y2 * x) := by
      have h3 : y * (Nat.gcd x y * x2) = Nat.gcd x y * (x2 * y) := by rw [Nat.mul_comm y, Nat.mul_assoc]
      have h4 : y * (Nat.gcd x2 y2 * x) = (Nat.gcd x2 y2 * y) * x := by rw [Nat.mul_comm y, Nat.mul_assoc, Nat.mul_comm x y, ← Nat.mul_assoc]
      rw [h3, h4, ← e1, ← h, Nat.mul_comm x y2, ← Nat.mul_assoc]
    exact Nat.eq_of_mul_eq_mul_left hy this
  unfold redN
  have d1 := Nat.gcd_dvd_left x y
  have d2 := Nat.gcd_dvd_right x y
  have d3 := Nat.gcd_dvd_left x2 y2
  have d4 := Nat.gcd_dvd_right x2 y2
  obtain ⟨a, ha⟩ := d1
  obtain ⟨b, hb⟩ := d2
  obtain ⟨a2, ha2⟩ := d3
  obtain ⟨b2, hb2⟩ := d4
  generalize Nat.gcd x y = g at *
  generalize Nat.gcd x2 y2 = g2 at *
  subst ha
  subst hb
  subst ha2
  subst hb2
  rw [Nat.mul_div_cancel_left _ hg, Nat.mul_div_cancel_left _ hg, Nat.mul_div_cancel_left _ hg2, Nat.mul_div_cancel_left _ hg2]
  have f1 : b2 = b := by
    have : (g * g2) * b2 = (g * g2) * b := by rw [Nat.mul_assoc, e1, ← Nat.mul_assoc, Nat.mul_comm g2 g]
    exact Nat.eq_of_mul_eq_mul_left (Nat.mul_pos hg hg2) this
  have f2 : a2 = a := by
    have : (g * g2) * a2 = (g * g2) * a := by rw [Nat.mul_assoc, e2, ← Nat.mul_assoc, Nat.mul_comm g2 g]
    exact Nat.eq_of_mul_eq_mul_left (Nat.mul_pos hg hg2) this
  rw [f1, f2]
/-- agents whose posteriors are constant on a set that is a union of the cells of each have the same one: the share of the event in the set -/
theorem agree_on {p : Pri} (hok : OkP p) {E : Nat} {J : Nat → Bool} {x a : Nat} (ha : a < p.cells.length) (hx : x < p.wt.length) (hJ : J x = true)
    (hcl : ∀ u v, u < p.wt.length → v < p.wt.length → J u = true → fo (p.cells.getD a []) v = fo (p.cells.getD a []) u → J v = true)
    (hc : ∀ u, u < p.wt.length → J u = true → postN p a u E = postN p a x E) :
    postN p a x E = redN (wT p.wt (fun i => J i && E.testBit i) p.wt.length) (wT p.wt J p.wt.length) ∧ 0 < wT p.wt J p.wt.length := by
  have hcan := hok.can ha
  have hpos : ∀ u, u < p.wt.length → 0 < wOf p.wt (blkV (p.cells.getD a []) (u : Int)) := fun u hu => wOf_pos hok hu (by rw [blk_test hcan hu hu]; exact decide_eq_true rfl)
  have hW : 0 < wT p.wt J p.wt.length := by
    refine sumN_pos hx ?_
    rw [if_pos hJ]
    have := hok.w _ (getD_memP (l := p.wt) (j := x) (d := 0) hx)
    omega
  have hm := mean_cells rfl hcan E J (postN p a x E).1 (postN p a x E).2 hcl (fun u hu hJu => by
    rw [← hc u hu hJu]
    exact (redN_mul (hpos u hu)).1)
  refine ⟨?_, hW⟩
  have h1 := redN_mul (x := wOf p.wt (blkV (p.cells.getD a []) (x : Int) &&& E)) (hpos x hx)
  show redN _ _ = _
  refine redN_eq (hpos x hx) hW ?_
  have h2 : (postN p a x E).2 = (redN (wOf p.wt (blkV (p.cells.getD a []) (x : Int) &&& E)) (wOf p.wt (blkV (p.cells.getD a []) (x : Int)))).2 := rfl
  have h3 : (postN p a x E).1 = (redN (wOf p.wt (blkV (p.cells.getD a []) (x : Int) &&& E)) (wOf p.wt (blkV (p.cells.getD a []) (x : Int)))).1 := rfl
  rw [← h2, ← h3] at h1
  generalize wOf p.wt (blkV (p.cells.getD a []) (x : Int) &&& E) = A at *
  generalize wOf p.wt (blkV (p.cells.getD a []) (x : Int)) = B at *
  generalize (postN p a x E).1 = num at *
  generalize (postN p a x E).2 = den at *
  generalize wT p.wt (fun i => J i && E.testBit i) p.wt.length = C at *
  generalize wT p.wt J p.wt.length = D at *
  -- A * den = num * B, C * den = num * D
  have h4 : den * (A * D) = den * (C * B) := by
    rw [← Nat.mul_assoc, Nat.mul_comm den A, h1.1, ← Nat.mul_assoc, Nat.mul_comm den C, hm, Nat.mul_assoc, Nat.mul_assoc, Nat.mul_comm B D]
  exact Nat.eq_of_mul_eq_mul_left h1.2 h4
end Go.Proofs.YtfbgabcdeecpoaaDoor
/- Layer 24: lists of priors; equal lists of cells. -/
namespace Go.Proofs.YtfbgabcdeecpoaaDoor
open Go.RowKit Go.Proofs.Ws
set_option maxRecDepth 100000
theorem eqZZ_at {a b : List (List Int)} (hl : a.length = b.length) (h : ∀ j, j < a.length → a.getD j [] = b.getD j []) : a = b := by
  apply List.ext_getElem hl
  intro j h1 h2
  have := h j h1
  simp [h1, h2] at this
  exact this
set_option maxHeartbeats 4000000 in
theorem eqFuncI_any (a b : List (List Int)) (A A2 : Option Addr) (n m c c2 B : Nat) (w : World) (hR : ZsR w B A n a) (hR2 : ZsR w B A2 m b) (hm : n ≤ maxLen) (hm2 : m ≤ maxLen) :
    Calls Tryd.prog 64 #[.slice A n c, .slice A2 m c2, .func (.func 65) #[] #[]] w fun e w' => e = .returned (.bool (decide (a = b))) ∧ ∃ q, w' = w.drewN q := by
  unfold maxLen at hm hm2
  have hl := hR.len
  have hl2 := hR2.len
  have HL := Lib.hid hl
  have HL2 := Lib.hid hl2
  have HR := Lib.hid hR
  have HR2 := Lib.hid hR2
  by_cases hnm : n = m
  · subst hnm
    have hne : ((n : Int) != (n : Int)) = false := by simp
    clear hR hR2 hl hl2
    go_enter Tryd.func64, Tryd.ntmps64
    go_wp2
    go_loopw [7, 8, 9, 17] (fun _ _ _ i wr => ∃ k q : Nat, k ≤ n ∧ i = .int .i64 k ∧ Hid (∀ j, j < k → a.getD j [] = b.getD j []) ∧ wr = w.drewN q) (fun _ _ _ i _ => n - (intOf i).toNat)
    case atStart => exact ⟨0, 0, Nat.zero_le _, rfl, Lib.hid (fun j hj => absurd hj (by omega)), rfl⟩
    case round =>
      obtain ⟨k, q, hk, rfl, HF, rfl⟩ := hrel
      by_cases hlt : k < n
      · obtain ⟨ad, Aj, cj, rfl, hb, hc, hr, hlj⟩ := HR.out.at_ hlt
        obtain ⟨ad2, Aj2, cj2, rfl, hb2, hc2, hr2, hlj2⟩ := HR2.out.at_ hlt
        obtain ⟨x, hx⟩ : ∃ x, a.getD k [] = x := ⟨_, rfl⟩
        obtain ⟨y, hy⟩ : ∃ y, b.getD k [] = y := ⟨_, rfl⟩
        rw [hx] at hc hr hlj
        rw [hy] at hc2 hr2 hlj2
        have HX := Lib.hid hx
        have HY := Lib.hid hy
        have HC := Lib.hid (fun W (h1 : Reads W B 1 Aj x.length (ints x)) (h2 : Reads W B 1 Aj2 y.length (ints y)) => equalI_any x y Aj Aj2 x.length y.length cj cj2 B W h1 h2 hlj hlj2)
        have H1 := Lib.hid (hr.drewN q)
        have H2 := Lib.hid (hr2.drewN q)
        clear hx hy hr hr2 hlj hlj2
        by_cases he : x = y
        · have HF2 := Lib.hid (fun j (hj : j < k + 1) => show a.getD j [] = b.getD j [] from by
            by_cases e : j = k
            · subst e; rw [HX.out, HY.out]; exact he
            · exact HF.out j (by omega))
          rw [decide_eq_true he] at HC
          clear he HF
          go_wp2_with fail
          refine (HC.out _ H1.out H2.out).mono ?_
          rintro e w2 ⟨rfl, q2, rfl⟩
          go_wp2
          go_roundw
          case rel => exact ⟨k + 1, _, by omega, by go_num, HF2, by first | rfl | rw [World.drewN_drewN] | (simp; rfl)⟩
          case measure => simp [intOf]; omega
        · have HD : Hid (decide (a = b) = false) := Lib.hid (decide_eq_false (fun e => he (by rw [← HX.out, ← HY.out, e])))
          rw [decide_eq_false he] at HC
          clear he HF
          go_wp2_with fail
          refine (HC.out _ H1.out H2.out).mono ?_
          rintro e w2 ⟨rfl, q2, rfl⟩
          go_wp2
          go_ret
          exact ⟨ret_bool HD.out.symm, ⟨_, by first | rfl | rw [World.drewN_drewN]⟩⟩
      · have hkn : k = n := by omega
        subst hkn
        have HD : Hid (decide (a = b) = true) := Lib.hid (decide_eq_true (eqZZ_at (HL.out.trans HL2.out.symm) (fun j hj => HF.out j (by have := HL.out; omega))))
        clear HF
        go_wp2
        go_ret
        exact ⟨ret_bool HD.out.symm, ⟨q, rfl⟩⟩
  · have HD : Hid (decide (a = b) = false) := Lib.hid (decide_eq_false (fun e => hnm (by rw [← hl, ← hl2, e])))
    have hne : ((n : Int) != (m : Int)) = true := by rw [bne_iff_ne]; omega
    clear hR hR2 hl hl2 hnm
    go_enter Tryd.func64, Tryd.ntmps64
    go_wp2
    go_ret
    exact ⟨ret_bool HD.out.symm, ⟨0, rfl⟩⟩
/-- a slice of priors -/
def PrsR (W : World) (B : Nat) (A : Option Addr) (n : Nat) (P : Nat → Pri) : Prop :=
  ∃ cs, Reads W B 2 A n cs ∧ ∀ j, j < n → ∃ V1 V2, cs[j * 2]? = some V1 ∧ cs[j * 2 + 1]? = some V2 ∧ PrR W B (.agg #[V1, V2]) (P j)
theorem PrsR.below {W W' : World} {B B2 : Nat} {A : Option Addr} {n : Nat} {P : Nat → Pri} (h : PrsR W B A n P) (hb : Below B W W') (h2 : B ≤ B2) : PrsR W' B2 A n P := by
  obtain ⟨cs, h1, h3⟩ := h
  refine ⟨cs, (h1.below hb).more h2, fun j hj => ?_⟩
  obtain ⟨V1, V2, e1, e2, h4⟩ := h3 j hj
  exact ⟨V1, V2, e1, e2, h4.below hb h2⟩
theorem PrsR.at_ {W : World} {B : Nat} {A : Option Addr} {n : Nat} {P : Nat → Pri} (h : PrsR W B A n P) {k : Nat} (hk : k < n) :
    ∃ b o V1 V2, A = some ⟨b, o, none⟩ ∧ b < B ∧ W.cell? ⟨b, o + k * 2, none⟩ = some V1 ∧ W.cell? ⟨b, o + k * 2 + 1, none⟩ = some V2 ∧ PrR W B (.agg #[V1, V2]) (P k) := by
  obtain ⟨cs, h1, h3⟩ := h
  obtain ⟨V1, V2, e1, e2, h4⟩ := h3 k hk
  obtain ⟨_, _, e3, _, _⟩ := h3 0 (by omega)
  obtain ⟨ad, hA, hb, hc⟩ := h1.2 (by omega)
  have hsp := spot_none (hc _ _ e3)
  rw [Nat.zero_mul] at hsp
  obtain ⟨b, o, sp⟩ := ad
  have hsp2 : sp = none := hsp
  subst hsp2
  have y1 := hc _ _ e1
  have y2 := hc _ _ e2
  rw [add_spot] at y1 y2
  exact ⟨b, o, V1, V2, hA, hb, y1, y2, h4⟩
/-- a list of priors, all of it one's own -/
def PrsO (W : World) (base : Nat) (LV : Value) (n : Nat) (P : Nat → Pri) : Prop :=
  ∃ cs, W.ownsRow base 25 2 LV n cs ∧ ∀ j, j < n → ∃ V1 V2, cs[j * 2]? = some V1 ∧ cs[j * 2 + 1]? = some V2 ∧ PrO W base (.agg #[V1, V2]) (P j)
theorem PrsO.below {W W' : World} {base n : Nat} {LV : Value} {P : Nat → Pri} (h : PrsO W base LV n P) (hb : Below W.heap.size W W') : PrsO W' base LV n P := by
  obtain ⟨cs, h1, h2⟩ := h
  refine ⟨cs, own_keep1 h1 (fun g hg => hb.block g (h1.lt g hg).2), fun j hj => ?_⟩
  obtain ⟨V1, V2, e1, e2, h3⟩ := h2 j hj
  exact ⟨V1, V2, e1, e2, h3.below hb⟩
theorem PrsO.prs {W : World} {base n : Nat} {LV : Value} {P : Nat → Pri} (h : PrsO W base LV n P) (hok : ∀ j, j < n → OkP (P j)) : ∃ A c, LV = .slice A n c ∧ PrsR W W.heap.size A n P := by
  obtain ⟨cs, h1, h2⟩ := h
  obtain ⟨A, c, rfl, hR⟩ := own_readsF h1
  refine ⟨A, c, rfl, cs, hR, fun j hj => ?_⟩
  obtain ⟨V1, V2, e1, e2, h3⟩ := h2 j hj
  exact ⟨V1, V2, e1, e2, h3.prr (hok j hj)⟩
/-- what is one's own stays as it is where a list of priors grows -/
theorem PrO.appended {w9 w5 : World} {o : Obj} {b2 n size base : Nat} {v V : Value} {p : Pri} {xs : List Value} (h : PrO w9 base v p) (ho : w9.ownsRow b2 25 size V n xs) (hg : (w9.alloc o).grownBy w5 V.ownBlock) : PrO w5 base v p := by
  obtain ⟨V1, V2, e, h1, vs, h2, h3⟩ := h.ex
  refine ⟨V1, V2, e, h1.appended ho (by decide) hg, vs, ?_, fun j hj => ?_⟩
  · refine own_keep1 (h2.alloc o) (fun g hgg => hg.block g ((h2.alloc o).lt g hgg).2 (fun e2 => own_apart h2 ho (by decide) hgg e2.symm))
  · obtain ⟨u, e2, h4⟩ := h3 j hj
    exact ⟨u, e2, h4.appended ho (by decide) hg⟩
theorem PrsO.snoc {w9 w5 : World} {o : Obj} {n base : Nat} {LV LV' V1 V2 : Value} {P : Nat → Pri} {cs : List Value}
    (h1 : w9.ownsRow base 25 2 LV n cs) (h2 : ∀ j, j < n → ∃ V1 V2, cs[j * 2]? = some V1 ∧ cs[j * 2 + 1]? = some V2 ∧ PrO w9 base (.agg #[V1, V2]) (P j)) (hp : PrO w9 base (.agg #[V1, V2]) (P n))
    (hg : (w9.alloc o).grownBy w5 LV.ownBlock) (ho : w5.ownsRow base 25 2 LV' (n + 1) (cs ++ [V1, V2])) : PrsO w5 base LV' (n + 1) P := by
  have hl : cs.length = n * 2 := h1.1
  refine ⟨_, ho, fun j hj => ?_⟩
  by_cases e : j = n
  · subst e
    exact ⟨V1, V2, by rw [List.getElem?_append_right (by omega), show j * 2 - cs.length = 0 by omega]; rfl, by rw [List.getElem?_append_right (by omega), show j * 2 + 1 - cs.length = 1 by omega]; rfl, hp.appended h1 hg⟩
  · obtain ⟨U1, U2, e1, e2, h3⟩ := h2 j (by omega)
    exact ⟨U1, U2, by rw [List.getElem?_append_left (by omega)]; exact e1, by rw [List.getElem?_append_left (by omega)]; exact e2, h3.appended h1 hg⟩
/-- the form of a prior that is one's own -/
theorem PrO.form {W : World} {base : Nat} {v : Value} {p : Pri} (h : PrO W base v p) : ∃ g1 d1 A5 c5, v = .agg #[.slice (some ⟨g1, 0, none⟩) p.wt.length d1, .slice A5 p.cells.length c5] := by
  obtain ⟨V1, V2, rfl, ⟨g1, d1, rfl, _, _⟩, vs, h2, _⟩ := h.ex
  obtain ⟨A5, c5, rfl⟩ := own_sl h2
  exact ⟨g1, d1, A5, c5, rfl⟩
theorem Tryd.infoPr : (Tryd.prog.info? 25).map (fun i => (i.zero, i.size, i.bytes)) = some (some (.agg #[.slice none 0 0, .slice none 0 0]), 2, 48) := by kernel_rfl
def lenV : Value → Nat
  | .slice _ n _ => n
  | _ => 0
end Go.Proofs.YtfbgabcdeecpoaaDoor
