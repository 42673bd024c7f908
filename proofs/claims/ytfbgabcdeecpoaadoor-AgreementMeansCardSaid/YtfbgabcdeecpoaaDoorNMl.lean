/- Layer 6: texts joined: Yr Ys. -/
import Derived.Test.YtfbgabcdeecpoaaDoorNMk
/- Layer 24: cells divided by keys, by the program. -/
namespace Go.Proofs.YtfbgabcdeecpoaaDoor
open Go.RowKit Go.Proofs.Ws
set_option maxRecDepth 100000
def divA (c : Nat → List Int) (ks : List (List Int)) (a t j : Nat) : List Int := if j < a then divC (c j) ks else if j = a then divC (c j) (ks.take t) else c j
theorem divC_snoc (c : List Int) (ks : List (List Int)) (k : List Int) : divC c (ks ++ [k]) = canonL (divC c ks) k := by
  unfold divC
  rw [List.foldl_append]
  rfl
theorem divA_zero (c : Nat → List Int) (ks : List (List Int)) (a : Nat) : divA c ks a 0 = fun j => if j < a then divC (c j) ks else c j := by
  funext j
  unfold divA
  by_cases h : j < a
  · rw [if_pos h, if_pos h]
  · rw [if_neg h, if_neg h]
    by_cases e : j = a
    · rw [if_pos e]; rfl
    · rw [if_neg e]
theorem divA_full (c : Nat → List Int) (ks : List (List Int)) (a : Nat) : divA c ks a ks.length = fun j => if j < a + 1 then divC (c j) ks else c j := by
  funext j
  unfold divA
  rw [List.take_length]
  by_cases h : j < a
  · rw [if_pos h, if_pos (by omega)]
  · rw [if_neg h]
    by_cases e : j = a
    · rw [if_pos e, if_pos (by omega)]
    · rw [if_neg e, if_neg (by omega)]
theorem divA_self (c : Nat → List Int) (ks : List (List Int)) (a t : Nat) : divA c ks a t a = divC (c a) (ks.take t) := by
  unfold divA
  rw [if_neg (Nat.lt_irrefl a), if_pos rfl]
theorem divA_step (c : Nat → List Int) (ks : List (List Int)) (a : Nat) {t : Nat} (h : t < ks.length) : divA c ks a (t + 1) a = canonL (divA c ks a t a) (ks.getD t []) := by
  rw [divA_self, divA_self, List.take_succ_eq_append_getElem h, divC_snoc, List.getD_eq_getElem?_getD, List.getElem?_eq_getElem h]
  rfl
theorem map_getD_lt {α β : Type} (f : α → β) {l : List α} {j : Nat} (d : α) (e : β) (h : j < l.length) : (l.map f).getD j e = f (l.getD j d) := by
  rw [List.getD_eq_getElem?_getD, List.getD_eq_getElem?_getD, List.getElem?_map, List.getElem?_eq_getElem h]
  rfl
theorem divA_other (c : Nat → List Int) (ks : List (List Int)) (a t : Nat) {j : Nat} (h : j ≠ a) : divA c ks a (t + 1) j = divA c ks a t j := by
  unfold divA
  rw [if_neg h, if_neg h]
theorem divA_can {n : Nat} (hn : n ≤ 64) {c : Nat → List Int} {ks : List (List Int)} {j : Nat} (h : Can n (c j)) (a t : Nat) : Can n (divA c ks a t j) := by
  unfold divA
  split
  · exact divC_can hn _ h
  · split
    · exact divC_can hn _ h
    · exact h
theorem RowsZ.congr {W : World} {base m : Nat} {RV : Value} {F G : Nat → List Int} (h : RowsZ W base RV m F) (hFG : ∀ j, j < m → F j = G j) : RowsZ W base RV m G := by
  obtain ⟨vs, h1, h2⟩ := h
  exact ⟨vs, h1, fun j hj => by rw [← hFG j hj]; exact h2 j hj⟩
/-- the cell of a row -/
theorem RowsZ.cell {W : World} {base m g c k : Nat} {F : Nat → List Int} (h : RowsZ W base (.slice (some ⟨g, 0, none⟩) m c) m F) (hk : k < m) : ∃ g' c', W.cell? ⟨g, k, none⟩ = some (.slice (some ⟨g', 0, none⟩) (F k).length c') ∧ W.frozen? ⟨g, k, none⟩ = false ∧ HoldsJ W g' (F k) := by
  obtain ⟨vs, h1, h2⟩ := h
  obtain ⟨u, e, g', c', rfl, _, h3⟩ := h2 k hk
  exact ⟨g', c', by rw [h1.cellAt k (by omega), e], h1.frozenAt k, h3⟩
set_option maxHeartbeats 4000000 in
theorem aDivide_any (p : Pri) (ks : List (List Int)) (v : Value) (AK : Option Addr) (nk ck : Nat) (w : World) (hM : PrR w w.heap.size v p) (hok : OkP p) (hK : ZsR w w.heap.size AK nk ks) (hks : ∀ k ∈ ks, k.length = p.wt.length ∧ WFs k) (hnk : nk ≤ 64) :
    Calls Tryd.prog 57 #[v, .slice AK nk ck] w fun e w' => ∃ v', e = .returned v' ∧ PrO w' w.heap.size v' (divP p ks) ∧ Below w.heap.size w w' := by
  obtain ⟨A1, c1, A2, c2, rfl, hv, hr⟩ := hM.ex
  have hle := hok.le
  have hpos := hok.pos
  have hag := hok.ag
  have hkl := hK.len
  have HB1 : Hid (Below w.heap.size w ((w.alloc (.cells #[.slice A1 p.wt.length c1, .slice A2 p.cells.length c2] 25)).alloc (.cells #[.slice none 0 0, .slice none 0 0] 25))) := Lib.hid (((Below.refl _ w).alloc (Nat.le_refl _) _).alloc (by simp) _)
  have HPR : Hid (PBox ((w.alloc (.cells #[.slice A1 p.wt.length c1, .slice A2 p.cells.length c2] 25)).alloc (.cells #[.slice none 0 0, .slice none 0 0] 25)) (w.heap.size + 1) (.slice none 0 0) (.slice none 0 0)) := Lib.hid (by
    have := PBox.made (w.alloc (.cells #[.slice A1 p.wt.length c1, .slice A2 p.cells.length c2] 25)) (.slice none 0 0) (.slice none 0 0)
    simpa using this)
  have HCL := Lib.hid (fun (W : World) (hb : Below w.heap.size w W) => aClone_any p (.agg #[.slice A1 p.wt.length c1, .slice A2 p.cells.length c2]) W (hM.below hb hb.size) hok)
  have HCAN : Hid (∀ a t j, j < p.cells.length → Can p.wt.length (divA (fun j => p.cells.getD j []) ks a t j)) := Lib.hid (fun a t j hj => divA_can hle (hok.can hj) a t)
  have HKK : Hid (∀ t, t < nk → ∃ ad At ct, AK = some ad ∧ ad.block < w.heap.size ∧ (∀ W, Below w.heap.size w W → W.cell? (ad.add t) = some (.slice At p.wt.length ct) ∧ Reads W W.heap.size 1 At p.wt.length (ints (ks.getD t []))) ∧ WFs (ks.getD t [])) := Lib.hid (fun t ht => by
    obtain ⟨ad, At, ct, hA, had, hcell, hrc, hlc⟩ := hK.at_ ht
    have hm := hks (ks.getD t []) (getD_memP (by omega))
    rw [hm.1] at hcell hrc hlc
    exact ⟨ad, At, ct, hA, had, fun W hb => ⟨(hb.cell (p := ad.add t) (by rw [block_of_add]; exact had)).trans hcell, (hrc.below hb).more hb.size⟩, hm.2⟩)
  have HEX : Hid (∀ W base v, (∃ V1 V2, v = .agg #[V1, V2] ∧ OneZ W base V1 p.wt ∧ RowsZ W base V2 p.cells.length (fun j => if j < p.cells.length then divC (p.cells.getD j []) ks else p.cells.getD j [])) → PrO W base v (divP p ks)) := Lib.hid (fun W base v h => by
    obtain ⟨V1, V2, e, h1, h2⟩ := h
    refine ⟨V1, V2, e, h1, ?_⟩
    have el : (divP p ks).cells.length = p.cells.length := by show (p.cells.map _).length = _; rw [List.length_map]
    rw [el]
    refine h2.congr (fun j hj => ?_)
    rw [if_pos hj]
    show _ = (p.cells.map (fun c => divC c ks)).getD j []
    rw [map_getD_lt _ [] [] hj])
  have HST : Hid (∀ a t, t < nk → divA (fun j => p.cells.getD j []) ks a (t + 1) a = canonL (divA (fun j => p.cells.getD j []) ks a t a) (ks.getD t [])) := Lib.hid (fun a t ht => divA_step _ ks a (by omega))
  have HFL : Hid (∀ a, divA (fun j => p.cells.getD j []) ks a nk = divA (fun j => p.cells.getD j []) ks (a + 1) 0) := Lib.hid (fun a => by rw [← hkl, divA_full, divA_zero])
  have HZE : Hid (∀ a, divA (fun j => p.cells.getD j []) ks a 0 = fun j => if j < a then divC (p.cells.getD j []) ks else p.cells.getD j []) := Lib.hid (fun a => divA_zero _ ks a)
  have HDO : Hid (∀ a t j, j ≠ a → divA (fun j => p.cells.getD j []) ks a (t + 1) j = divA (fun j => p.cells.getD j []) ks a t j) := Lib.hid (fun a t j h => divA_other _ ks a t h)
  have HCLO : Hid (∀ W base v, PrO W base v p → ∃ V1 V2, v = .agg #[V1, V2] ∧ OneZ W base V1 p.wt ∧ RowsZ W base V2 p.cells.length (divA (fun j => p.cells.getD j []) ks 0 0)) := Lib.hid (fun W base v h => by
    obtain ⟨V1, V2, e, h1, h2⟩ := h.ex
    refine ⟨V1, V2, e, h1, h2.congr (fun j hj => ?_)⟩
    rw [divA_zero]; dsimp only; rw [if_neg (by omega)])
  clear hM hv hr hok hK hks hkl
  generalize divA (fun j => p.cells.getD j []) ks = F at *
  generalize hn : p.wt.length = n at *
  have HN := Lib.hid hn
  clear hn
  generalize hm : p.cells.length = m at *
  clear hm
  go_enter Tryd.func57, Tryd.ntmps57
  go_wp2_with fail
  generalize (w.alloc (.cells #[.slice A1 n c1, .slice A2 m c2] 25)).alloc (.cells #[.slice none 0 0, .slice none 0 0] 25) = w1 at *
  refine (HCL.out _ HB1.out).mono ?_
  rintro e w2 ⟨v', rfl, hO, hb2⟩
  obtain ⟨V1, V2, rfl, hO1, hO2⟩ := HCLO.out _ _ _ hO
  obtain ⟨g1, d1, rfl, hg1, hJ1⟩ := hO1
  rw [HN.out]
  have hO1 : OneZ w2 (w.heap.size + 2) (.slice (some ⟨g1, 0, none⟩) n d1) p.wt := ⟨g1, d1, by rw [HN.out], by have := HPR.out.lt; omega, hJ1⟩
  have hO2 := hO2.mono (show w.heap.size + 2 ≤ w1.heap.size by have := HPR.out.lt; omega)
  obtain ⟨AR, cR, rfl⟩ : ∃ AR cR, V2 = .slice AR m cR := by
    obtain ⟨vs, h, _⟩ := hO2
    exact own_sl h
  have hba : Below w2.heap.size w2 (w2.alloc (.cells #[.slice (some ⟨g1, 0, none⟩) n d1, .slice AR m cR] 25)) := (Below.refl _ w2).alloc (Nat.le_refl _) _
  have HB3 := Lib.hid (belowNext (belowNext HB1.out hb2) hba)
  have HR3 := Lib.hid ((HPR.out.below hb2 HPR.out.lt).below hba (HPR.out.below hb2 HPR.out.lt).lt)
  have HQ3 := Lib.hid (PBox.made w2 (.slice (some ⟨g1, 0, none⟩) n d1) (.slice AR m cR))
  have HO3 := Lib.hid (hO1.below hba)
  have HZ3 := Lib.hid (hO2.below hba)
  have hGs : w.heap.size + 2 ≤ w2.heap.size := by have := (HPR.out.below hb2 HPR.out.lt).lt; omega
  clear hba hb2 hJ1 hO1 hO2 hO hg1 HB1 HPR HCL HCLO
  go_wp2
  generalize w2.alloc (.cells #[.slice (some ⟨g1, 0, none⟩) n d1, .slice AR m cR] 25) = w3 at *
  generalize w2.heap.size = G at *
  go_loopw [6, 8, 14] (fun _ _ i wr => ∃ a : Nat, a ≤ m ∧ i = .int .i64 (a : Int) ∧ Hid (Below w.heap.size w wr ∧ PBox wr (w.heap.size + 1) (.slice none 0 0) (.slice none 0 0) ∧ PBox wr G (.slice (some ⟨g1, 0, none⟩) n d1) (.slice AR m cR) ∧ OneZ wr (w.heap.size + 2) (.slice (some ⟨g1, 0, none⟩) n d1) p.wt ∧ RowsZ wr (w.heap.size + 2) (.slice AR m cR) m (F a 0))) (fun _ _ i _ => m - (intOf i).toNat)
  case atStart => exact ⟨0, Nat.zero_le _, rfl, Lib.hid ⟨HB3.out, HR3.out, HQ3.out, HO3.out, HZ3.out⟩⟩
  case round =>
    obtain ⟨a, ha, rfl, HI⟩ := hrel
    by_cases hlt : a < m
    · go_wp2
      rename World => wo
      go_loopw [8, 19] (fun _ i wr => ∃ t : Nat, t ≤ nk ∧ i = .int .i64 (t : Int) ∧ Hid (Below w.heap.size w wr ∧ PBox wr (w.heap.size + 1) (.slice none 0 0) (.slice none 0 0) ∧ PBox wr G (.slice (some ⟨g1, 0, none⟩) n d1) (.slice AR m cR) ∧ OneZ wr (w.heap.size + 2) (.slice (some ⟨g1, 0, none⟩) n d1) p.wt ∧ RowsZ wr (w.heap.size + 2) (.slice AR m cR) m (F a t))) (fun _ i _ => nk - (intOf i).toNat)
      case atStart => exact ⟨0, Nat.zero_le _, rfl, HI⟩
      case round =>
        obtain ⟨t, ht, rfl, HJ⟩ := hrel
        by_cases hlt2 : t < nk
        · obtain ⟨kd, At, ct, rfl, hkd, hKW, hwf⟩ := HKK.out t hlt2
          obtain ⟨hI1, hI2, hI3, hI4, hI5⟩ := HJ.out
          obtain ⟨gR, cR', hAR, hgR, hgR2⟩ := hI5.form (by omega)
          injection hAR with hAR1 _ hAR3
          subst hAR1
          subst hAR3
          have hcan := HCAN.out a t a hlt
          obtain ⟨gj, cj, hcj, hfj, hHj⟩ := hI5.cell hlt
          rw [hcan.len] at hcj
          have hkc := (hKW wr hI1).1
          have HSP := Lib.hid (fun (W : World) (hb : Below wr.heap.size wr W) => aSplit_own (F a t a) (ks.getD t []) (some ⟨gj, 0, none⟩) At n cj ct W (by
            have := (hHj.below hb hHj.lt).reads
            rw [hcan.len] at this
            exact this) (hKW W (belowNext hI1 hb)).2 (by unfold maxLen; omega) (can_wf hcan hle) hwf hcan.ok)
          have HS := Lib.hid (⟨hI1, hI2, hI3, hI4, hI5⟩ : _ ∧ _ ∧ _ ∧ _ ∧ _)
          have HQX : Hid (∀ W, Below wr.heap.size wr W → PBox W G (.slice (some ⟨g1, 0, none⟩) n d1) (.slice (some ⟨gR, 0, none⟩) m cR)) := Lib.hid (fun W hb => hI3.below hb hI3.lt)
          have HYX : Hid (∀ W, Below wr.heap.size wr W → W.cell? ⟨gR, a, none⟩ = some (.slice (some ⟨gj, 0, none⟩) n cj) ∧ W.frozen? ⟨gR, a, none⟩ = false) := Lib.hid (fun W hb => by
            have h := hI5.below hb
            obtain ⟨_, _, _, h2, _⟩ := h.cell hlt
            exact ⟨(hb.cell (p := ⟨gR, a, none⟩) hgR2).trans hcj, h2⟩)
          have q1 := hI3.c1
          have hd0 : Below wr.heap.size wr wr.drew := (Below.refl _ wr).drew
          have hc0 := hd0
          have hGs2 : w.heap.size + 2 ≤ wr.heap.size := by have := hI3.lt; omega
          have HSTA := Lib.hid (HST.out a t hlt2)
          clear hI1 hI2 hI3 hI4 hI5 hHj hcan hKW HJ
          go_wp2
          go_region_with (go_at_call 79; refine (HSP.out _ ?_).mono ?_; assumption; rintro e w9 ⟨g9, rfl, hg9, hH9, hb9⟩; have hc9 : Below wr.heap.size wr w9 := (by refine belowNext ?_ hb9; assumption); have q9 := (HQX.out w9 hc9).c1; have y9 := (HYX.out w9 hc9).1; have f9 := (HYX.out w9 hc9).2; have HH9 := Lib.hid hH9; clear hb9 hH9)
          all_goals
            have hR9 := HS.out.2.2.2.2.below hc9
            have hu : OneZ w9 (w.heap.size + 2) (.slice (some ⟨g9, 0, none⟩) n n) (F a (t + 1) a) := ⟨g9, n, by rw [(HCAN.out a (t + 1) a hlt).len], Nat.le_trans (Nat.le_trans hGs2 hc0.size) hg9, by rw [HSTA.out]; exact HH9.out.pad⟩
            have hR := hR9.store hlt hu (fun j hj => HDO.out a t j hj)
            have ho := OnlyB.set gR a w9 (.slice (some ⟨g9, 0, none⟩) n n)
            obtain ⟨vs9, h91, _⟩ := hR9
            obtain ⟨cur9, h92⟩ := own_type h91 (g := gR) rfl
            have hne : G ≠ gR := fun e => (HQX.out w9 hc9).notRow h91 (by decide) (by rw [e]; rfl)
            have hint : ∀ cs fr, w9.heap[gR]? ≠ some (.cells cs 3 fr) := fun cs fr e => by
              rw [h92] at e
              injection e with e
              injection e with _ e2
              exact absurd e2 (by decide)
            have HBz : Below w.heap.size w w9 := belowNext HS.out.1 hc9
            have hZ := Lib.hid (⟨HBz.trans (ho.below (by omega) HBz.size), (HS.out.2.1.below hc9 HS.out.2.1.lt).other ho (by omega), (HQX.out w9 hc9).other ho hne, (HS.out.2.2.2.1.below hc9).only ho hint, hR⟩ : _ ∧ _ ∧ _ ∧ _ ∧ _)
            clear hu hR ho h91 h92 hint HBz q9 y9 f9
            generalize w9.setCell ⟨gR, a, none⟩ (.slice (some ⟨g9, 0, none⟩) n n) = w6 at *
            go_wp2
            go_roundw
            case rel => exact ⟨t + 1, by omega, by go_num, hZ⟩
            case measure => first | (simp [intOf]; done) | (simp [intOf]; omega)
        · obtain rfl : t = nk := by omega
          have HJ2 := HJ
          rw [HFL.out a] at HJ2
          clear HJ
          go_wp2
          go_roundw
          case rel => exact ⟨a + 1, by omega, by go_num, HJ2⟩
          case measure => first | (simp [intOf]; done) | (simp [intOf]; omega)
    · obtain rfl : a = m := by omega
      obtain ⟨hI1, hI3, hI4, hI5, hI6⟩ := HI.out
      have HS := Lib.hid (⟨hI1, hI3, hI4, hI5, hI6⟩ : _ ∧ _ ∧ _ ∧ _ ∧ _)
      have q0 := hI4.c0
      have q1 := hI4.c1
      have r0 := hI3.c0
      have r1 := hI3.c1
      have f0 := hI3.free 0
      have f1 := hI3.free 1
      clear HI hI1 hI3 hI4 hI5 hI6
      go_wp2
      have HZ := Lib.hid (HS.out.2.1.set2 (.slice (some ⟨g1, 0, none⟩) n d1) (.slice AR a cR))
      clear q0 q1 r0 r1 f0 f1
      generalize ((wr.setCell ⟨w.heap.size + 1, 0, none⟩ (.slice (some ⟨g1, 0, none⟩) n d1)).setCell ⟨w.heap.size + 1, 1, none⟩ (.slice AR a cR)) = w7 at *
      (try simp only [Exit.inBlock, Exit.then])
      refine bodyPost_ret (ret_cell1 rfl _ _ (w.heap.size + 1) _ _ _ _ rfl HZ.out.1 Tryd.underlying25 rfl (by kernel_rfl)) rfl ?_
      refine ⟨_, rfl, HEX.out _ _ _ ⟨_, _, rfl, (HS.out.2.2.2.1.only HZ.out.2 (fun cs fr => (HS.out.2.1.noInt cs fr).2)).mono (Nat.le_add_right _ _), ?_⟩, HS.out.1.trans (HZ.out.2.below (Nat.le_succ _) HS.out.1.size)⟩
      have h9 := (HS.out.2.2.2.2.only HZ.out.2 HS.out.2.1.noInt).mono (Nat.le_add_right w.heap.size 2)
      rw [HZE.out] at h9
      exact h9
end Go.Proofs.YtfbgabcdeecpoaaDoor
/- Layer 24: a round, and an announcement, by the program. -/
namespace Go.Proofs.YtfbgabcdeecpoaaDoor
open Go.RowKit Go.Proofs.Ws
set_option maxRecDepth 100000
theorem tellK_len (p : Pri) (a s : Nat) : (tellK p a s).length = p.wt.length := by unfold tellK; rw [keysF_len, postL_len]
theorem tellK_wf {p : Pri} (h : p.wt.length ≤ 64) (a s : Nat) : WFs (tellK p a s) := keysF_wf (by rw [postL_len]; exact h)
set_option maxHeartbeats 4000000 in
theorem aRound_any (p : Pri) (s : Nat) (v : Value) (w : World) (hM : PrR w w.heap.size v p) (hok : OkP p) (hs : s < 2 ^ p.wt.length) (hT : Tab w) :
    Calls Tryd.prog 60 #[v, .int .u64 (s : Int)] w fun e w' => ∃ v', e = .returned v' ∧ PrO w' w.heap.size v' (rndP p s) ∧ Below w.heap.size w w' := by
  have HDV := Lib.hid (fun (W : World) (hb : Below w.heap.size w W) AK nk ck (hK : ZsR W W.heap.size AK nk (tellsL p s)) (hn : nk ≤ 64) => aDivide_any p (tellsL p s) v AK nk ck W (hM.below hb hb.size) hok hK (fun k hk => by
    unfold tellsL at hk
    obtain ⟨a, _, rfl⟩ := List.mem_map.1 hk
    exact ⟨tellK_len p a s, tellK_wf hok.le a s⟩) hn)
  have HPO := Lib.hid (fun (a : Nat) (ha : a < p.cells.length) (W : World) (hb : Below w.heap.size w W) => aPosts_any p v a s W (hM.below hb hb.size) hok ha hs (hT.belowAt hb hT.2))
  have hle := hok.le
  have hag := hok.ag
  have HFE := Lib.hid (fun a W A c (hR : Reads W W.heap.size 2 A p.wt.length (frs (postL p a s))) => aFirst_any (postL p a s) A p.wt.length c W hR hle)
  have HTL : Hid ((List.range p.cells.length).map (fun a => keysF (postL p a s)) = tellsL p s) := Lib.hid rfl
  have HKL : Hid (∀ a, (keysF (postL p a s)).length = p.wt.length) := Lib.hid (fun a => tellK_len p a s)
  have HRP : Hid (divP p (tellsL p s) = rndP p s) := Lib.hid rfl
  rw [HRP.out] at HDV
  obtain ⟨A1, c1, A2, c2, rfl, hv, hr⟩ := hM.ex
  have HB1 : Hid (Below w.heap.size w ((w.alloc (.cells #[.slice A1 p.wt.length c1, .slice A2 p.cells.length c2] 25)).alloc (.cells #[.slice none 0 0, .slice none 0 0] 25))) := Lib.hid (((Below.refl _ w).alloc (Nat.le_refl _) _).alloc (by simp) _)
  have HPB : Hid (PBox ((w.alloc (.cells #[.slice A1 p.wt.length c1, .slice A2 p.cells.length c2] 25)).alloc (.cells #[.slice none 0 0, .slice none 0 0] 25)) w.heap.size (.slice A1 p.wt.length c1) (.slice A2 p.cells.length c2)) := Lib.hid ((Below.heap_alloc _ _ _ (PBox.made w _ _).lt).trans (PBox.made w _ _))
  have HPR : Hid (PBox ((w.alloc (.cells #[.slice A1 p.wt.length c1, .slice A2 p.cells.length c2] 25)).alloc (.cells #[.slice none 0 0, .slice none 0 0] 25)) (w.heap.size + 1) (.slice none 0 0) (.slice none 0 0)) := Lib.hid (by
    have := PBox.made (w.alloc (.cells #[.slice A1 p.wt.length c1, .slice A2 p.cells.length c2] 25)) (.slice none 0 0) (.slice none 0 0)
    simpa using this)
  clear hM hv hr hok hs hT HRP
  obtain ⟨K, hKe⟩ : ∃ K : Nat → List Int, K = fun a => keysF (postL p a s) := ⟨_, rfl⟩
  have hKa : ∀ a, keysF (postL p a s) = K a := fun a => by rw [hKe]
  simp only [hKa] at HFE HTL HKL
  clear hKe hKa
  generalize rndP p s = RP at *
  generalize tellsL p s = TL at *
  generalize p.wt.length = n at *
  generalize p.cells.length = m at *
  have hba : Below ((w.alloc (.cells #[.slice A1 n c1, .slice A2 m c2] 25)).alloc (.cells #[.slice none 0 0, .slice none 0 0] 25)).heap.size ((w.alloc (.cells #[.slice A1 n c1, .slice A2 m c2] 25)).alloc (.cells #[.slice none 0 0, .slice none 0 0] 25)) (((w.alloc (.cells #[.slice A1 n c1, .slice A2 m c2] 25)).alloc (.cells #[.slice none 0 0, .slice none 0 0] 25)).alloc (.cells #[] 22)) := (Below.refl _ ((w.alloc (.cells #[.slice A1 n c1, .slice A2 m c2] 25)).alloc (.cells #[.slice none 0 0, .slice none 0 0] 25))).alloc (Nat.le_refl _) _
  have HB3 := Lib.hid (belowNext HB1.out hba)
  have HP3 := Lib.hid (HPB.out.below hba HPB.out.lt)
  have HR3 := Lib.hid (HPR.out.below hba HPR.out.lt)
  have HZ3 : Hid (RowsZ (((w.alloc (.cells #[.slice A1 n c1, .slice A2 m c2] 25)).alloc (.cells #[.slice none 0 0, .slice none 0 0] 25)).alloc (.cells #[] 22)) (w.heap.size + 2) (.slice (some ⟨w.heap.size + 1 + 1, 0, none⟩) 0 0) 0 K) := Lib.hid ⟨[], by
    have h := World.ownsRow_lit (base := w.heap.size + 2) (e := 22) (size := 1) ((w.alloc (.cells #[.slice A1 n c1, .slice A2 m c2] 25)).alloc (.cells #[.slice none 0 0, .slice none 0 0] 25)) #[] 0 (by simp) (Nat.zero_le _) (by simp)
    simpa using h, fun j hj => absurd hj (by omega)⟩
  have b0 := HP3.out.c0
  have b1 := HP3.out.c1
  clear HB1 HPB HPR hba
  go_enter Tryd.func60, Tryd.ntmps60
  go_wp2
  clear b0 b1
  generalize (((w.alloc (.cells #[.slice A1 n c1, .slice A2 m c2] 25)).alloc (.cells #[.slice none 0 0, .slice none 0 0] 25)).alloc (.cells #[] 22)) = w3 at *
  generalize (.slice (some ⟨w.heap.size + 1 + 1, 0, none⟩) 0 0 : Value) = RV0 at *
  go_loopw [5, 6, 11] (fun RV _ i wr => ∃ a : Nat, a ≤ m ∧ i = .int .i64 (a : Int) ∧ RowsZ wr (w.heap.size + 2) RV a K ∧ Hid (Below w.heap.size w wr ∧ PBox wr w.heap.size (.slice A1 n c1) (.slice A2 m c2) ∧ PBox wr (w.heap.size + 1) (.slice none 0 0) (.slice none 0 0))) (fun _ _ i _ => m - (intOf i).toNat)
  case atStart => exact ⟨0, Nat.zero_le _, rfl, HZ3.out, Lib.hid ⟨HB3.out, HP3.out, HR3.out⟩⟩
  case round =>
    obtain ⟨a, ha, rfl, hRZ, HI⟩ := hrel
    have b0 := HI.out.2.1.c0
    have b1 := HI.out.2.1.c1
    obtain ⟨vs, hvs, hvr⟩ := hRZ
    obtain ⟨AR, cR, rfl⟩ := own_sl hvs
    by_cases hlt : a < m
    · have HVS := Lib.hid hvs
      have HVR := Lib.hid hvr
      have hszr : w.heap.size + 2 ≤ wr.heap.size := by have := HI.out.2.2.lt; omega
      clear hvs hvr
      go_wp2_with fail
      refine (HPO.out a hlt _ HI.out.1).mono ?_
      rintro e w4 ⟨A4, c4, rfl, hrd4, hb4⟩
      have HB4 := Lib.hid (belowNext HI.out.1 hb4)
      have HP4 := Lib.hid (HI.out.2.1.below hb4 HI.out.2.1.lt)
      have HR4 := Lib.hid (HI.out.2.2.below hb4 HI.out.2.2.lt)
      have HV4 := Lib.hid (own_keep1 HVS.out (fun g hg => hb4.block g (HVS.out.lt g hg).2))
      have HVR4 : Hid (∀ j, j < a → ∃ u, vs[j]? = some u ∧ OneZ w4 (w.heap.size + 2) u (K j)) := Lib.hid (fun j hj => by
        obtain ⟨u, e, h⟩ := HVR.out j hj
        exact ⟨u, e, h.below hb4⟩)
      have HRD := Lib.hid hrd4
      have hsz4 : w.heap.size + 2 ≤ w4.heap.size := Nat.le_trans hszr hb4.size
      clear hb4 hrd4 b0 b1
      go_wp2_with fail
      refine (HFE.out a _ _ _ HRD.out).mono ?_
      rintro e w5 ⟨g5, rfl, hg5, hH5, hb5⟩
      have HB5 := Lib.hid (belowNext HB4.out hb5)
      have HP5 := Lib.hid (HP4.out.below hb5 HP4.out.lt)
      have HR5 := Lib.hid (HR4.out.below hb5 HR4.out.lt)
      have hown := own_keep1 HV4.out (fun g hg => hb5.block g (HV4.out.lt g hg).2)
      have HVR5 : Hid (∀ j, j < a → ∃ u, vs[j]? = some u ∧ OneZ w5 (w.heap.size + 2) u (K j)) := Lib.hid (fun j hj => by
        obtain ⟨u, e, h⟩ := HVR4.out j hj
        exact ⟨u, e, h.below hb5⟩)
      have HU : Hid (OneZ w5 (w.heap.size + 2) (.slice (some ⟨g5, 0, none⟩) n n) (K a)) := Lib.hid ⟨g5, n, by rw [HKL.out], Nat.le_trans hsz4 hg5, hH5.pad⟩
      have hsz5 : w.heap.size + 2 ≤ w5.heap.size := Nat.le_trans hsz4 hb5.size
      clear hb5 hH5
      obtain ⟨i0, hi, hz0, hz1, hz2⟩ := info_parts Tryd.infoZ
      go_wp2_with (at_builtin; refine wpList_append_own _ rfl _ _ 23 rfl (w.heap.size + 2) 22 i0 (.slice none 0 0) 1 24 Tryd.underlying23 hi hz0 hz1 hz2 rfl (by decide) _ _ _ rfl (hown.alloc _) ⟨w5.heap.size, 0, none⟩ 1 1 [.slice (some ⟨g5, 0, none⟩) n n] rfl rfl ?c1 ?c2 ?c3 ?c4 ?c5 ?_)
      case c1 =>
        intro j u hj
        match j, hj with
        | 0, hj => simp at hj; subst hj; simp [Addr.add]
      case c2 => intro u hu; simp at hu; subst hu; rfl
      case c3 => unfold maxLen; omega
      case c4 => omega
      case c5 => simp; omega
      · intro v' w6 hown' hgrow _
        have hZ6 := Lib.hid (RowsZ.snoc hown HVR5.out HU.out hgrow hown')
        have HP6 := Lib.hid (HP5.out.appended hown (by decide) hgrow)
        have HR6 := Lib.hid (HR5.out.appended hown (by decide) hgrow)
        have HB6 := Lib.hid ((HB5.out.alloc HB5.out.size _).grown hgrow (by have := HB5.out.size; simp; omega) (fun j hj => by have := (hown.lt j hj).1; omega))
        clear hown hown' hgrow hi hz0 hz1 hz2
        go_wp2
        go_roundw
        case rel => exact ⟨a + 1, by omega, by go_num, hZ6.out, Lib.hid ⟨HB6.out, HP6.out, HR6.out⟩⟩
        case measure => first | (simp [intOf]; done) | (simp [intOf]; omega)
    · obtain rfl : a = m := by omega
      have hz : RowsZ wr (w.heap.size + 2) (.slice AR a cR) a K := ⟨vs, hvs, hvr⟩
      obtain ⟨A9, c9, e9, hzs⟩ := hz.zsr (fun j _ => by rw [HKL.out]; unfold maxLen; omega)
      injection e9 with e91 _ e93
      subst e91
      subst e93
      rw [HTL.out] at hzs
      have HZS := Lib.hid hzs
      clear hz hzs hvs hvr
      go_wp2_with fail
      refine (HDV.out _ HI.out.1 _ _ _ HZS.out (by omega)).mono ?_
      rintro e w4 ⟨v', rfl, hO, hb4⟩
      have HR4 := Lib.hid (HI.out.2.2.below hb4 HI.out.2.2.lt)
      have HB4 := Lib.hid (belowNext HI.out.1 hb4)
      have hszw := HI.out.1.size
      have hszr : w.heap.size + 2 ≤ wr.heap.size := by have := HI.out.2.2.lt; omega
      obtain ⟨V1, V2, rfl, h1, h2⟩ := hO.ex
      obtain ⟨g1, d1, rfl, hg1, hJ1⟩ := id h1
      obtain ⟨A5, c5, rfl⟩ : ∃ AR cR, V2 = .slice AR RP.cells.length cR := by
        obtain ⟨vs, h, _⟩ := h2
        exact own_sl h
      have HO := Lib.hid h1
      have HO2 := Lib.hid h2
      clear h1 h2 hO hb4 hJ1 b0 b1
      have r0 := HR4.out.c0
      have r1 := HR4.out.c1
      have f0 := HR4.out.free 0
      have f1 := HR4.out.free 1
      go_wp2
      have HZ := Lib.hid (HR4.out.set2 (.slice (some ⟨g1, 0, none⟩) RP.wt.length d1) (.slice A5 RP.cells.length c5))
      clear r0 r1 f0 f1
      generalize ((w4.setCell ⟨w.heap.size + 1, 0, none⟩ (.slice (some ⟨g1, 0, none⟩) RP.wt.length d1)).setCell ⟨w.heap.size + 1, 1, none⟩ (.slice A5 RP.cells.length c5)) = w7 at *
      (try simp only [Exit.inBlock, Exit.then])
      refine bodyPost_ret (ret_cell1 rfl _ _ (w.heap.size + 1) _ _ _ _ rfl HZ.out.1 Tryd.underlying25 rfl (by kernel_rfl)) rfl ?_
      exact ⟨_, rfl, ⟨_, _, rfl, (HO.out.only HZ.out.2 (fun cs fr => (HR4.out.noInt cs fr).2)).mono hszw, (HO2.out.only HZ.out.2 HR4.out.noInt).mono hszw⟩, HB4.out.trans (HZ.out.2.below (Nat.le_succ _) HB4.out.size)⟩
end Go.Proofs.YtfbgabcdeecpoaaDoor
