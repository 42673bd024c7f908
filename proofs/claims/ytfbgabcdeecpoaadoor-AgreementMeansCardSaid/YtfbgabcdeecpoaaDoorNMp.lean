/- Layer 6: texts joined: Zd Ze. -/
import Derived.Test.YtfbgabcdeecpoaaDoorNMo
/- Layer 24: a copy of a prior by the reference. -/
namespace Go.Proofs.YtfbgabcdeecpoaaDoor
open Go.RowKit Go.Proofs.Ws
set_option maxRecDepth 100000
/-- a list of ints is appended -/
theorem step_appL {ops : Array Oper} {o : Oper} {a : Act} {K : Act → World → Prop} {Q : Exit → Act → World → Prop} {E : Prop} {xs l : List Int} (n m c : Nat) (W : World) (hgd : o.guard = none) (s x : Operand)
    (ho : o.op = .call { callee := .builtin .append, args := #[s, x], argTypes := #[22, 22] }) (base : Nat) (ad : Addr) (V : Value)
    (hs : a.eval s = V) (hown : W.ownsRow base 3 1 V n (ints xs)) (hx : a.eval x = .slice (some ad) m c)
    (hr : Reads W W.heap.size 1 (some ad) m (ints l)) (hm : 1 ≤ m) (hn : n + m ≤ 1000000) (hbase : base ≤ W.heap.size)
    (h : ∀ g cap w', w'.ownsRow base 3 1 (.slice (some ⟨g, 0, none⟩) (n + m) cap) (n + m) (ints (xs ++ l)) → W.grownBy w' V.ownBlock → (V.ownBlock = some g ∨ W.heap.size ≤ g) → g < w'.heap.size → K (a.put o.dst (.slice (some ⟨g, 0, none⟩) (n + m) cap)) w') :
    if Region.wanted o (yielded ops a.tmps) = true then Oper.wp Tryd.prog o a W K Q else E := by
  obtain ⟨i0, hi, hz0, hz1, hz2⟩ := info_parts Tryd.infoI
  have hl := hr.int_len
  obtain ⟨_, hrd⟩ := hr
  obtain ⟨ad', hA, hb, hc⟩ := hrd (by omega)
  injection hA with hA
  subst hA
  refine step_append_lies W hgd s x 22 ho base 3 i0 _ 1 8 Tryd.underlying22 hi hz0 hz1 hz2 rfl (by decide) V n (ints xs) hs hown ad m c (ints l) hx (by rw [ints_length]; omega) hc ?_ hm (by unfold maxLen; omega) (by omega) hbase _ rfl ?_
  · intro u hu
    unfold ints at hu
    obtain ⟨k, _, rfl⟩ := List.mem_map.1 hu
    rfl
  · intro g cap w' h1 h2 h3 h4
    exact h g cap w' (by rw [show ints (xs ++ l) = ints xs ++ ints l by simp [ints]]; exact h1) h2 (h3.imp id (fun e => by omega)) h4
set_option maxHeartbeats 8000000 in
theorem rCopy_any (p : Pri) (v : Value) (w : World) (hM : PrR w w.heap.size v p) (hok : OkP p) :
    Calls Tryd.prog 61 #[v] w fun e w' => ∃ v', e = .returned v' ∧ PrO w' w.heap.size v' p ∧ Below w.heap.size w w' := by
  obtain ⟨A1, c1, A2, c2, rfl, hv, hr⟩ := hM.ex
  have hle := hok.le
  have hpos := hok.pos
  have hag := hok.ag
  have HB1 : Hid (Below w.heap.size w ((w.alloc (.cells #[.slice A1 p.wt.length c1, .slice A2 p.cells.length c2] 25)).alloc (.cells #[.slice none 0 0, .slice none 0 0] 25))) := Lib.hid (((Below.refl _ w).alloc (Nat.le_refl _) _).alloc (by simp) _)
  have HPB : Hid (PBox ((w.alloc (.cells #[.slice A1 p.wt.length c1, .slice A2 p.cells.length c2] 25)).alloc (.cells #[.slice none 0 0, .slice none 0 0] 25)) w.heap.size (.slice A1 p.wt.length c1) (.slice A2 p.cells.length c2)) := Lib.hid ((Below.heap_alloc _ _ _ (PBox.made w _ _).lt).trans (PBox.made w _ _))
  have HPR : Hid (PBox ((w.alloc (.cells #[.slice A1 p.wt.length c1, .slice A2 p.cells.length c2] 25)).alloc (.cells #[.slice none 0 0, .slice none 0 0] 25)) (w.heap.size + 1) (.slice none 0 0) (.slice none 0 0)) := Lib.hid (by
    have := PBox.made (w.alloc (.cells #[.slice A1 p.wt.length c1, .slice A2 p.cells.length c2] 25)) (.slice none 0 0) (.slice none 0 0)
    simpa using this)
  have HCC : Hid (∀ k, k < p.cells.length → ∃ ad ak ck, A2 = some ad ∧ ad.block < w.heap.size ∧ (∀ W, Below w.heap.size w W → W.cell? (ad.add k) = some (.slice (some ak) p.wt.length ck) ∧ Reads W w.heap.size 1 (some ak) p.wt.length (ints (p.cells.getD k [])))) := Lib.hid (fun k hk => by
    obtain ⟨ad, Ak, ck, hA, had, hcell, hrc, hlc⟩ := hr.at_ hk
    rw [(hok.can hk).len] at hcell hrc hlc
    obtain ⟨ak, rfl, _, _⟩ := hrc.int_at (show 0 < p.wt.length by omega)
    exact ⟨ad, ak, ck, hA, had, fun W hb => ⟨(hb.cell (p := ad.add k) (by rw [block_of_add]; exact had)).trans hcell, hrc.below hb⟩⟩)
  have HLC : Hid (∀ k, k < p.cells.length → (p.cells.getD k []).length = p.wt.length) := Lib.hid (fun k hk => (hok.can hk).len)
  have HEX : Hid (∀ W base v, (∃ V1 V2, v = .agg #[V1, V2] ∧ OneZ W base V1 p.wt ∧ RowsZ W base V2 p.cells.length (fun j => p.cells.getD j [])) → PrO W base v p) := Lib.hid (fun W base v h => ⟨h⟩)
  obtain ⟨ad1, rfl, had1, _⟩ := hv.int_at (show 0 < p.wt.length by omega)
  have HV1 := Lib.hid hv
  obtain ⟨i0, hi, hz0, hz1, hz2⟩ := info_parts Tryd.infoI
  clear hM hv hr hok
  generalize hF : (fun j => p.cells.getD j []) = F at *
  have HFE : Hid (∀ j, p.cells.getD j [] = F j) := Lib.hid (fun j => by rw [← hF])
  simp only [HFE.out] at HCC HLC
  clear hF HFE
  generalize hWT : p.wt = WT at *
  generalize hn : WT.length = n at *
  have HN := Lib.hid hn
  generalize p.cells.length = m at *
  clear hn hWT
  have hmade : (((w.alloc (.cells #[.slice (some ad1) n c1, .slice A2 m c2] 25)).alloc (.cells #[.slice none 0 0, .slice none 0 0] 25)).alloc (.cells #[] 3)).ownsRow (w.heap.size + 1 + 1) 3 1 (.slice (some ⟨w.heap.size + 1 + 1, 0, none⟩) 0 0) 0 [] := by
    have h := World.ownsRow_made (base := w.heap.size + 1 + 1) (e := 3) (size := 1) ((w.alloc (.cells #[.slice (some ad1) n c1, .slice A2 m c2] 25)).alloc (.cells #[.slice none 0 0, .slice none 0 0] 25)) #[] 0 (by simp) (Nat.zero_le _) (by simp)
    simpa using h
  go_enter Tryd.func61, Tryd.ntmps61
  go_wp2_with (at_builtin; refine wpList_append_own _ rfl _ _ 22 rfl (w.heap.size + 1 + 1) 3 i0 (.int .i64 0) 1 8 Tryd.underlying22 hi hz0 hz1 hz2 rfl (by decide) _ _ _ rfl hmade ad1 n c1 (ints WT) rfl ?qc1 ?qc2 ?qc3 ?qc4 ?qc5 ?qc6 ?_)
  case qc1 => rw [ints_length, HN.out]; omega
  case qc2 =>
    intro j u hj
    obtain ⟨_, h⟩ := HV1.out
    obtain ⟨ad', hA, hb', hc'⟩ := h (by omega)
    injection hA with hA
    subst hA
    have hcc := hc' j u hj
    exact Lib.cell?_alloc_some _ ((HB1.out.cell (p := ad1.add j) (by rw [block_of_add]; exact had1)).trans hcc)
  case qc3 =>
    intro u hu
    unfold ints at hu
    obtain ⟨k, _, rfl⟩ := List.mem_map.1 hu
    rfl
  case qc4 => unfold maxLen; omega
  case qc5 => omega
  case qc6 => simp
  intro v1 w4 hown hgrow _
  have hszb : ((w.alloc (.cells #[.slice (some ad1) n c1, .slice A2 m c2] 25)).alloc (.cells #[.slice none 0 0, .slice none 0 0] 25)).heap.size = w.heap.size + 1 + 1 := by simp
  have hb4 : Below (w.heap.size + 1 + 1) ((w.alloc (.cells #[.slice (some ad1) n c1, .slice A2 m c2] 25)).alloc (.cells #[.slice none 0 0, .slice none 0 0] 25)) w4 := ((Below.refl _ _).alloc (by rw [hszb]; exact Nat.le_refl _) (.cells #[] 3)).grown hgrow (by simp) (by intro j hj; simp [Value.ownBlock] at hj; omega)
  have hp0 := HPB.out.below hb4 (by omega)
  have hp2 := HPR.out.below hb4 (by omega)
  have hB4 := HB1.out.trans (hb4.mono (by omega))
  obtain ⟨g1, d1, rfl, hg1, hJ1⟩ := (OneZ.of_own hown HN.out hpos).form HN.out
  have hO1 : OneZ w4 (w.heap.size + 2) (.slice (some ⟨g1, 0, none⟩) n d1) WT := ⟨g1, d1, by rw [HN.out], hg1, hJ1⟩
  have hba : Below w4.heap.size w4 (w4.alloc (.cells #[.slice (some ⟨g1, 0, none⟩) n d1, .slice none 0 0] 25)) := (Below.refl _ w4).alloc (Nat.le_refl _) _
  have HI3 := Lib.hid (⟨belowNext hB4 hba, hp0.below hba hp0.lt, hp2.below hba hp2.lt, PBox.made w4 (.slice (some ⟨g1, 0, none⟩) n d1) (.slice none 0 0), hO1.below hba, RowsZ.nil (w4.alloc (.cells #[.slice (some ⟨g1, 0, none⟩) n d1, .slice none 0 0] 25)) (w.heap.size + 2) F⟩ : _ ∧ _ ∧ _ ∧ _ ∧ _ ∧ _)
  have hGs : w.heap.size + 2 ≤ w4.heap.size := by have := hb4.size; omega
  clear hb4 hp0 hp2 hB4 hO1 hba hown hgrow hJ1 hmade hi hz0 hz1 hz2 hszb HB1 HPB HPR HV1
  go_wp2
  generalize w4.alloc (.cells #[.slice (some ⟨g1, 0, none⟩) n d1, .slice none 0 0] 25) = w3 at *
  generalize w4.heap.size = G at *
  go_loopw [4] (fun i wr => ∃ (k : Nat) (RV : Value), k ≤ m ∧ i = .int .i64 (k : Int) ∧ Hid (Below w.heap.size w wr ∧ PBox wr w.heap.size (.slice (some ad1) n c1) (.slice A2 m c2) ∧ PBox wr (w.heap.size + 1) (.slice none 0 0) (.slice none 0 0) ∧ PBox wr G (.slice (some ⟨g1, 0, none⟩) n d1) RV ∧ OneZ wr (w.heap.size + 2) (.slice (some ⟨g1, 0, none⟩) n d1) WT ∧ RowsZ wr (w.heap.size + 2) RV k F)) (fun i _ => m - (intOf i).toNat)
  case atStart => exact ⟨0, .slice none 0 0, Nat.zero_le _, rfl, HI3⟩
  case round =>
    obtain ⟨k, RV, hk, rfl, HI⟩ := hrel
    obtain ⟨hI1, hI2, hI4, hI5, hI6, hI7⟩ := HI.out
    have b0 := hI2.c0
    have b1 := hI2.c1
    by_cases hlt : k < m
    · obtain ⟨ad, ak, ck, rfl, had, hW⟩ := HCC.out k hlt
      have hlen := HLC.out k hlt
      obtain ⟨vs, hvs, hvr⟩ := hI7
      obtain ⟨AR, cR, rfl⟩ := own_sl hvs
      have HS := Lib.hid (⟨hI1, hI2, hI4, hI5, hI6⟩ : _ ∧ _ ∧ _ ∧ _ ∧ _)
      have HVS := Lib.hid hvs
      have HVR := Lib.hid hvr
      have q1 := hI5.c1
      have hcell := (hW wr hI1).1
      have hszr : w.heap.size + 2 ≤ wr.heap.size := by have := hI5.lt; omega
      have hmd : (wr.alloc (.cells #[] 3)).drew.ownsRow wr.heap.size 3 1 (.slice (some ⟨wr.heap.size, 0, none⟩) 0 0) 0 (ints []) := (World.ownsRow_made (base := wr.heap.size) (e := 3) (size := 1) wr #[] 0 (Nat.le_refl _) (Nat.zero_le _) (by simp))
      have HMD := Lib.hid hmd
      have hba : Below wr.heap.size wr (wr.alloc (.cells #[] 3)).drew := ((Below.refl _ wr).alloc (Nat.le_refl _) _).drew
      have x0 : (wr.alloc (.cells #[] 3)).cell? ⟨w.heap.size, 1, none⟩ = some (.slice (some ad) m c2) := (hI2.below hba hI2.lt).c1
      have x1 : (wr.alloc (.cells #[] 3)).cell? (ad.add k) = some (.slice (some ak) n ck) := (hW _ (belowNext hI1 hba)).1
      have x2 : (wr.alloc (.cells #[] 3)).cell? ⟨G, 1, none⟩ = some (.slice AR k cR) := (hI5.below hba hI5.lt).c1
      have hrd : Reads (wr.alloc (.cells #[] 3)).drew (wr.alloc (.cells #[] 3)).drew.heap.size 1 (some ak) n (ints (F k)) := (hW _ (belowNext hI1 hba)).2.more (belowNext hI1 hba).size
      have HRD := Lib.hid hrd
      have HBX : Hid (∀ W, Below wr.heap.size wr W → W.cell? ⟨G, 1, none⟩ = some (.slice AR k cR) ∧ (∀ o, (W.alloc o).cell? ⟨G, 1, none⟩ = some (.slice AR k cR))) := Lib.hid (fun W hb => by
        have h := hI5.below hb hI5.lt
        exact ⟨h.c1, fun o => (World.cell?_alloc_lt W o ⟨G, 1, none⟩ h.lt).trans h.c1⟩)
      have hls : wr.heap.size ≤ (wr.alloc (.cells #[] 3)).drew.heap.size := hba.size
      have HBA := Lib.hid hba
      have HQX : Hid (∀ W, Below wr.heap.size wr W → PBox W G (.slice (some ⟨g1, 0, none⟩) n d1) (.slice AR k cR)) := Lib.hid (fun W hb => hI5.below hb hI5.lt)
      clear HI hI1 hI2 hI4 hI5 hI6 hvs hvr hW hmd hba hrd
      go_wp2
      go_region_law (first
        | (refine step_appL (xs := []) (l := F k) 0 n ck _ (by rfl) _ _ (by rfl) wr.heap.size ak _ (by rfl) HMD.out (by go_simp) HRD.out hpos (by omega) hls ?_; intro g8 c8 w9 ho8 hg8 hr8 hl8; have hc9 : Below wr.heap.size wr w9 := (HBA.out.grown hg8 hls (by intro j hj; simp [Value.ownBlock] at hj; omega)); have HO9 := Lib.hid (own_keep1 HVS.out (fun g hg => hc9.block g (HVS.out.lt g hg).2)); have q9 := (HBX.out w9 hc9).1; have q9b := (HBX.out w9 hc9).2; have hszo : ∀ o, w.heap.size + 2 ≤ (w9.alloc o).heap.size := (fun o => by have h8 := hc9.size; have h7 : (w9.alloc o).heap.size = w9.heap.size + 1 := (by simp); omega))
        | (refine step_appZ (vs := vs) k (.slice (some ⟨g8, 0, none⟩) (0 + n) c8) _ (by rfl) _ _ (by rfl) (w.heap.size + 2) _ _ (by rfl) (HO9.out.alloc _) (by rfl) (by go_simp) rfl (by omega) (hszo _) ?_; intro g5 c5 w5 ho5 hgr hr5 hl5; have HQ5 := Lib.hid ((HQX.out w9 hc9).appended HO9.out (by decide) hgr); have q5 := HQ5.out.c1; have f5 := HQ5.out.free 1))
      all_goals
        have hc9' : Below wr.heap.size wr (w9.alloc (.cells #[.slice (some ⟨g8, 0, none⟩) (0 + n) c8] 22)) := hc9.alloc hc9.size _
        have hb5 : Below (w.heap.size + 2) wr w5 := by
          refine (hc9.mono hszr).trans ?_
          exact ((Below.refl _ w9).alloc (Nat.le_trans hszr hc9.size) _).grown hgr (by have := hc9.size; simp; omega) (fun j hj => (HO9.out.lt j hj).1)
        have hu8 : OneZ w9 (w.heap.size + 2) (.slice (some ⟨g8, 0, none⟩) (0 + n) c8) (F k) := by
          have h := OneZ.of_own (l := F k) ho8 (by rw [hlen]; omega) (by omega)
          exact h.mono hszr
        have hR5 : RowsZ w5 (w.heap.size + 2) (.slice (some ⟨g5, 0, none⟩) (k + 1) c5) (k + 1) F := RowsZ.snoc HO9.out (fun j hj => by
          obtain ⟨u, e, h⟩ := HVR.out j hj
          exact ⟨u, e, h.below hc9⟩) hu8 hgr ho5
        have hO5 := (HS.out.2.2.2.2.below hc9).appended HO9.out (by decide) hgr
        have hP5 := (HS.out.2.1.below hc9 HS.out.2.1.lt).appended HO9.out (by decide) hgr
        have hr5' := (HS.out.2.2.1.below hc9 HS.out.2.2.1.lt).appended HO9.out (by decide) hgr
        have hB5 := HS.out.1.trans (hb5.mono (Nat.le_add_right _ _))
        have ho := OnlyB.set G 1 w5 (.slice (some ⟨g5, 0, none⟩) (k + 1) c5)
        have hGne : w.heap.size ≠ G ∧ w.heap.size + 1 ≠ G ∧ w.heap.size ≤ G := by omega
        have hZ := Lib.hid (⟨hB5.trans (ho.below hGne.2.2 hB5.size), hP5.other ho hGne.1, hr5'.other ho hGne.2.1, HQ5.out.set1 (.slice (some ⟨g5, 0, none⟩) (k + 1) c5), hO5.only ho (fun cs fr => (HQ5.out.noInt cs fr).2), hR5.only ho HQ5.out.noInt⟩ : _ ∧ _ ∧ _ ∧ _ ∧ _ ∧ _)
        clear hc9' hb5 hR5 hO5 hP5 hr5' hB5 ho q5 f5 ho5 hgr hr5 hl5 hu8
        generalize w5.setCell ⟨G, 1, none⟩ (.slice (some ⟨g5, 0, none⟩) (k + 1) c5) = w6 at *
        go_wp2
        go_roundw
        case rel => exact ⟨k + 1, _, by omega, by go_num, hZ⟩
        case measure => first | (simp [intOf]; done) | (simp [intOf]; omega)
    · obtain rfl : k = m := by omega
      have HS := Lib.hid (⟨hI1, hI4, hI5, hI6, hI7⟩ : _ ∧ _ ∧ _ ∧ _ ∧ _)
      obtain ⟨vs, hvs, _⟩ := hI7
      obtain ⟨AR, cR, rfl⟩ := own_sl hvs
      have q0 := hI5.c0
      have q1 := hI5.c1
      have r0 := hI4.c0
      have r1 := hI4.c1
      have f0 := hI4.free 0
      have f1 := hI4.free 1
      clear HI hI1 hI2 hI4 hI5 hI6 hvs
      go_wp2
      have HZ := Lib.hid (HS.out.2.1.set2 (.slice (some ⟨g1, 0, none⟩) n d1) (.slice AR k cR))
      clear q0 q1 r0 r1 f0 f1
      generalize ((wr.setCell ⟨w.heap.size + 1, 0, none⟩ (.slice (some ⟨g1, 0, none⟩) n d1)).setCell ⟨w.heap.size + 1, 1, none⟩ (.slice AR k cR)) = w7 at *
      (try simp only [Exit.inBlock, Exit.then])
      refine bodyPost_ret (ret_cell1 rfl _ _ (w.heap.size + 1) _ _ _ _ rfl HZ.out.1 Tryd.underlying25 rfl (by kernel_rfl)) rfl ?_
      refine ⟨_, rfl, HEX.out _ _ _ ⟨_, _, rfl, (HS.out.2.2.2.1.only HZ.out.2 (fun cs fr => (HS.out.2.1.noInt cs fr).2)).mono (Nat.le_add_right _ _), (HS.out.2.2.2.2.only HZ.out.2 HS.out.2.1.noInt).mono (Nat.le_add_right _ _)⟩, HS.out.1.trans (HZ.out.2.below (by omega) HS.out.1.size)⟩
end Go.Proofs.YtfbgabcdeecpoaaDoor
/- Layer 24: equal priors, by the reference. -/
namespace Go.Proofs.YtfbgabcdeecpoaaDoor
open Go.RowKit Go.Proofs.Ws
set_option maxRecDepth 100000
theorem two_boxes (w : World) (x0 x1 y0 y1 : Value) :
    PBox ((w.alloc (.cells #[x0, x1] 25)).alloc (.cells #[y0, y1] 25)) w.heap.size x0 x1 ∧
    PBox ((w.alloc (.cells #[x0, x1] 25)).alloc (.cells #[y0, y1] 25)) (w.heap.size + 1) y0 y1 ∧
    Below w.heap.size w ((w.alloc (.cells #[x0, x1] 25)).alloc (.cells #[y0, y1] 25)) := by
  have h := three_boxes w x0 x1 y0 y1 x0 x1
  refine ⟨(Below.heap_alloc _ _ _ (PBox.made w x0 x1).lt).trans (PBox.made w x0 x1), ?_, ((Below.refl _ w).alloc (Nat.le_refl _) _).alloc (by simp) _⟩
  have := PBox.made (w.alloc (.cells #[x0, x1] 25)) y0 y1
  simpa using this
theorem pri_dec (a b : Pri) : decide (a = b) = (decide (a.wt = b.wt) && decide (a.cells = b.cells)) := by
  rw [Bool.eq_iff_iff]
  simp
  constructor
  · rintro rfl; exact ⟨rfl, rfl⟩
  · exact fun h => pri_eq h.1 h.2
theorem quiet_drew1 {P : Program} {f : FuncId} {args : Array Value} {w : World} {n : Nat} {v : Value} (h : Calls P f args (w.drewN n) fun e w' => e = .returned v ∧ ∃ k, w' = (w.drewN n).drewN k) :
    Calls P f args (w.drewN n) fun e w'' => e = .returned v ∧ ∃ m, w'' = w.drewN m := h.mono fun _ _ ⟨he, k, hm⟩ => ⟨he, n + k, by rw [hm]; simp⟩
set_option maxHeartbeats 4000000 in
theorem rSameP_any (a b : Pri) (v v' : Value) (w : World) (hM : PrR w w.heap.size v a) (hM2 : PrR w w.heap.size v' b) :
    Calls Tryd.prog 33 #[v, v'] w fun e w' => e = .returned (.bool (decide (a = b))) ∧ Below w.heap.size w w' := by
  have hlm := hM.lim
  have hlm2 := hM2.lim
  have HD := Lib.hid (pri_dec a b)
  obtain ⟨A1, c1, A2, c2, rfl, hv, hr⟩ := hM.ex
  obtain ⟨B1, e1, B2, e2, rfl, hv2, hr2⟩ := hM2.ex
  obtain ⟨awt, acl⟩ := a
  obtain ⟨bwt, bcl⟩ := b
  dsimp only at *
  have HT := Lib.hid (two_boxes w (.slice A1 awt.length c1) (.slice A2 acl.length c2) (.slice B1 bwt.length e1) (.slice B2 bcl.length e2))
  have HS1 := Lib.hid (fun (W : World) (hb : Below w.heap.size w W) => rSame03_any awt bwt A1 B1 awt.length bwt.length c1 e1 w.heap.size W (hv.below hb) (hv2.below hb) hlm.1 hlm2.1)
  have HR := Lib.hid (fun (W : World) (hb : Below w.heap.size w W) => hr.below hb (Nat.le_refl _))
  have HR2 := Lib.hid (fun (W : World) (hb : Below w.heap.size w W) => hr2.below hb (Nat.le_refl _))
  clear hM hM2 hv hv2 hr hr2
  generalize awt.length = n at *
  generalize bwt.length = n2 at *
  unfold maxLen at hlm hlm2
  have HLA : Hid (acl.length = acl.length) := Lib.hid rfl
  generalize hm : acl.length = m at *
  generalize hm2 : bcl.length = m2 at *
  have HM := Lib.hid hm
  have HM2 := Lib.hid hm2
  clear hm hm2
  by_cases hw : awt = bwt
  · have hdw : decide (awt = bwt) = true := decide_eq_true hw
    rw [hdw] at HS1
    rw [hdw, Bool.true_and] at HD
    clear hw hdw
    by_cases hmm : m = m2
    · subst hmm
      have hne : ((m : Int) != (m : Int)) = false := by simp
      go_enter Tryd.func33, Tryd.ntmps33
      have b0 := HT.out.1.c0
      have b1 := HT.out.1.c1
      have b2 := HT.out.2.1.c0
      have b3 := HT.out.2.1.c1
      go_wp2_with fail
      generalize (w.alloc (.cells #[.slice A1 n c1, .slice A2 m c2] 25)).alloc (.cells #[.slice B1 n2 e1, .slice B2 m e2] 25) = w1 at *
      refine (HS1.out _ HT.out.2.2).mono ?_
      rintro e w2 ⟨rfl, q0, rfl⟩
      go_wp2
      go_loopw [5] (fun i wr => ∃ k q : Nat, k ≤ m ∧ i = .int .i64 k ∧ Hid (∀ j, j < k → acl.getD j [] = bcl.getD j []) ∧ wr = w1.drewN q) (fun i _ => m - (intOf i).toNat)
      case atStart => exact ⟨0, q0, Nat.zero_le _, rfl, Lib.hid (fun j hj => absurd hj (by omega)), by first | rfl | trivial⟩
      case round =>
        obtain ⟨k, q, hk, rfl, HF, rfl⟩ := hrel
        by_cases hlt : k < m
        · obtain ⟨ad, Aj, cj, rfl, hb, hc, hr, hlj⟩ := (HR.out _ HT.out.2.2).at_ hlt
          obtain ⟨ad2, Aj2, cj2, rfl, hb2, hc2, hr2, hlj2⟩ := (HR2.out _ HT.out.2.2).at_ hlt
          obtain ⟨x, hx⟩ : ∃ x, acl.getD k [] = x := ⟨_, rfl⟩
          obtain ⟨y, hy⟩ : ∃ y, bcl.getD k [] = y := ⟨_, rfl⟩
          rw [hx] at hc hr hlj
          rw [hy] at hc2 hr2 hlj2
          have HX := Lib.hid hx
          have HY := Lib.hid hy
          have HC := Lib.hid (fun p2 => rSame03_any x y Aj Aj2 x.length y.length cj cj2 w.heap.size ((w1.drewN q).drewN p2) ((hr.drewN q).drewN p2) ((hr2.drewN q).drewN p2) hlj hlj2)
          have x1 : (w1.drewN q).cell? ⟨w.heap.size, 1, none⟩ = some (.slice (some ad) m c2) := HT.out.1.c1
          have x3 : (w1.drewN q).cell? ⟨w.heap.size + 1, 1, none⟩ = some (.slice (some ad2) m e2) := HT.out.2.1.c1
          have x4 : (w1.drewN q).cell? (ad.add k) = some (.slice Aj x.length cj) := hc
          have x5 : (w1.drewN q).cell? (ad2.add k) = some (.slice Aj2 y.length cj2) := hc2
          clear hx hy hr hr2 hlj hlj2
          by_cases he : x = y
          · have HF2 := Lib.hid (fun j (hj : j < k + 1) => show acl.getD j [] = bcl.getD j [] from by
              by_cases e : j = k
              · subst e; rw [HX.out, HY.out]; exact he
              · exact HF.out j (by omega))
            rw [decide_eq_true he] at HC
            clear he HF
            have HW5 : Hid (w1.drewN q = w1.drewN q) := Lib.hid rfl
            generalize hw5 : w1.drewN q = w5 at *
            have HW6 := Lib.hid hw5
            clear hw5 HW5
            go_wp2
            go_quiet (first | (go_at_call 62; exact quiet_drew1 (HC.out _)))
            go_wp2
            go_roundw
            case rel => exact ⟨k + 1, q + nq, by omega, by go_num, HF2, by rw [← HW6.out, World.drewN_drewN]⟩
            case measure => first | (simp [intOf]; done) | (simp [intOf]; omega)
          · have HD2 : Hid (decide (acl = bcl) = false) := Lib.hid (decide_eq_false (fun e => he (by rw [← HX.out, ← HY.out, e])))
            rw [decide_eq_false he] at HC
            clear he HF
            have HB5 := Lib.hid (below_drewN HT.out.2.2 q)
            generalize hw5 : w1.drewN q = w5 at *
            clear hw5
            go_wp2
            go_quiet (first | (go_at_call 62; exact quiet_drew1 (HC.out _)))
            go_wp2
            go_ret
            exact ⟨ret_bool (by rw [HD.out, HD2.out]), below_drewN HB5.out nq⟩
        · have hkn : k = m := by omega
          subst hkn
          have HD2 : Hid (decide (acl = bcl) = true) := Lib.hid (decide_eq_true (eqZZ_at (HM.out.trans HM2.out.symm) (fun j hj => HF.out j (by have := HM.out; omega))))
          clear HF
          go_wp2
          go_ret
          exact ⟨ret_bool (by rw [HD.out, HD2.out]), below_drewN HT.out.2.2 q⟩
    · have HD2 : Hid (decide (acl = bcl) = false) := Lib.hid (decide_eq_false (fun e => hmm (by rw [← HM.out, ← HM2.out, e])))
      have hne : ((m : Int) != (m2 : Int)) = true := by rw [bne_iff_ne]; omega
      clear hmm
      go_enter Tryd.func33, Tryd.ntmps33
      have b0 := HT.out.1.c0
      have b1 := HT.out.1.c1
      have b2 := HT.out.2.1.c0
      have b3 := HT.out.2.1.c1
      go_wp2_with fail
      generalize (w.alloc (.cells #[.slice A1 n c1, .slice A2 m c2] 25)).alloc (.cells #[.slice B1 n2 e1, .slice B2 m2 e2] 25) = w1 at *
      refine (HS1.out _ HT.out.2.2).mono ?_
      rintro e w2 ⟨rfl, q0, rfl⟩
      go_wp2
      go_ret
      exact ⟨ret_bool (by rw [HD.out, HD2.out]), below_drewN HT.out.2.2 q0⟩
  · have hdw : decide (awt = bwt) = false := decide_eq_false hw
    rw [hdw] at HS1
    rw [hdw, Bool.false_and] at HD
    clear hw hdw
    go_enter Tryd.func33, Tryd.ntmps33
    have b0 := HT.out.1.c0
    have b1 := HT.out.1.c1
    have b2 := HT.out.2.1.c0
    have b3 := HT.out.2.1.c1
    go_wp2_with fail
    generalize (w.alloc (.cells #[.slice A1 n c1, .slice A2 m c2] 25)).alloc (.cells #[.slice B1 n2 e1, .slice B2 m2 e2] 25) = w1 at *
    refine (HS1.out _ HT.out.2.2).mono ?_
    rintro e w2 ⟨rfl, q0, rfl⟩
    go_wp2
    go_ret
    exact ⟨ret_bool (by rw [HD.out]), below_drewN HT.out.2.2 q0⟩
end Go.Proofs.YtfbgabcdeecpoaaDoor
