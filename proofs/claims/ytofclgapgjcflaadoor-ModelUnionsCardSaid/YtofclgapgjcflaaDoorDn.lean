/- Layer 13: Restrict on both sides, the reference's Generated. -/
import Derived.Test.YtofclgapgjcflaaDoorDl
namespace Go.Proofs.YtofclgapgjcflaaDoor
open Go.RowKit Go.Proofs.Ws
set_option maxRecDepth 100000
/-- a parameter and a result's cell -/
structure Rs (w wx : World) (n : Int) (v1 v2 : Value) : Prop where
  box : MBox wx w.heap.size n v1 v2
  res : MBox wx (w.heap.size + 1) 0 (.slice none 0 0) (.slice none 0 0)
  below : Below w.heap.size w wx
theorem Rs.keep {w wx wy : World} {n : Int} {v1 v2 : Value} (h : Rs w wx n v1 v2) (hb : Below wx.heap.size wx wy) : Rs w wy n v1 v2 :=
  ⟨(hb.block _ h.box.lt).trans h.box, (hb.block _ h.res.lt).trans h.res, h.below.trans (hb.mono h.below.size)⟩
theorem Rs.made (w : World) (n : Int) (v1 v2 : Value) : Rs w ((w.alloc (.cells #[.int .i64 n, v1, v2] 25)).alloc (.cells #[.int .i64 0, .slice none 0 0, .slice none 0 0] 25)) n v1 v2 := by
  have h := BoxBox w n v1 v2 0 (.slice none 0 0) (.slice none 0 0)
  exact ⟨h.1, h.2.1, h.2.2⟩
/-- behind the store of the result -/
theorem Rs.fin {w wx : World} {n : Int} {v1 v2 : Value} (h : Rs w wx n v1 v2) (n' : Int) (b c : Value) :
    MBox (((wx.setCell ⟨w.heap.size + 1, 0, none⟩ (.int .i64 n')).setCell ⟨w.heap.size + 1, 1, none⟩ b).setCell ⟨w.heap.size + 1, 2, none⟩ c) (w.heap.size + 1) n' b c ∧
    Below w.heap.size w (((wx.setCell ⟨w.heap.size + 1, 0, none⟩ (.int .i64 n')).setCell ⟨w.heap.size + 1, 1, none⟩ b).setCell ⟨w.heap.size + 1, 2, none⟩ c) ∧
    OnlyB (w.heap.size + 1) wx (((wx.setCell ⟨w.heap.size + 1, 0, none⟩ (.int .i64 n')).setCell ⟨w.heap.size + 1, 1, none⟩ b).setCell ⟨w.heap.size + 1, 2, none⟩ c) := by
  have h3 := h.res.set3 (n' := n') (b := b) (c := c)
  exact ⟨h3.1, h.below.trans (h3.2.below (by omega) (by have := h.res.lt; omega)), h3.2⟩
theorem MoF.only {W W' : World} {g lo : Nat} {v : Value} {m : Mo} (h : MoF W lo v m) (ho : OnlyB g W W') (hg : g < lo) : MoF W' lo v m := fun W2 hs hag =>
  h W2 (Nat.le_trans ho.size hs) (fun j h1 h2 => (hag j h1 (Nat.lt_of_lt_of_le h2 ho.size)).trans (ho.block j h2 (by omega)))
theorem MoF.zero (W : World) (lo : Nat) : MoF W lo (.agg #[.int .i64 0, .slice none 0 0, .slice none 0 0]) mo0 := fun W' _ _ => MoR.zero W' _
set_option maxHeartbeats 8000000 in
theorem pRestrict_any (m : Mo) (v : Value) (s : Nat) (w : World) (hM : MoR w w.heap.size v m) (hs : s < 18446744073709551616) (hT : Tab w) :
    Calls Tryd.prog 17 #[v, .int .u64 (s : Int)] w fun e w' => ∃ v' A c, e = .returned (.tuple #[v', .slice A (restL m s).length c, .int .i64 (restE m s)]) ∧ MoF w' w.heap.size v' (restM m s) ∧ Reads w' w'.heap.size 1 A (restL m s).length (iv (restL m s)) ∧ Below w.heap.size w w' := by
  obtain ⟨A1, c1, A2, c2, rfl, hv, hr⟩ := hM.ex
  have HM := Lib.hid hM
  have HR := Lib.hid (Rs.made w m.n (.slice A1 m.val.length c1) (.slice A2 m.rel.length c2))
  have HC := Lib.hid (fun W (hb : Below w.heap.size w W) => pCheckSet_any m (.agg #[.int .i64 m.n, .slice A1 m.val.length c1, .slice A2 m.rel.length c2]) s W (hM.below hb hb.size) hs)
  have HS := Lib.hid hs
  have HT := Lib.hid hT
  have HEM : Hid (restM m s = if restE m s = 0 then pickM m (mem s) else mo0) := Lib.hid rfl
  have HEL : Hid (restL m s = if restE m s = 0 then mem s else []) := Lib.hid rfl
  have HEE : Hid (restE m s = if csE m s = 0 then (if s = 0 then 6 else 0) else csE m s) := Lib.hid rfl
  clear hM hv hr hs hT
  by_cases hz : csE m s = 0
  · obtain ⟨ok, hsn⟩ := csE_ok hz
    have HOK := Lib.hid ok
    have HSN := Lib.hid hsn
    rw [hz] at HC
    rw [if_pos hz] at HEE
    clear ok hsn hz
    by_cases h0 : s = 0
    · have heq : ((s : Int) == 0) = true := by rw [h0]; rfl
      rw [if_pos h0] at HEE
      clear h0
      rw [HEE.out, if_neg (by decide)] at HEM HEL
      generalize hq1 : m.val.length = nv at *
      generalize hq2 : m.rel.length = nr at *
      clear hq1 hq2
      go_enter Tryd.func17, Tryd.ntmps17
      go_wp2_with fail
      refine (HC.out _ HR.out.below).mono ?_
      rintro e w2 ⟨rfl, hb2⟩
      have HR2 := Lib.hid (HR.out.keep hb2)
      clear hb2
      have y0 := HR2.out.res.c0
      have y1 := HR2.out.res.c1
      have y2 := HR2.out.res.c2
      have f0 := HR2.out.res.free 0
      have f1 := HR2.out.res.free 1
      have f2 := HR2.out.res.free 2
      go_wp2
      have HZ3 := Lib.hid (HR2.out.fin 0 (.slice none 0 0) (.slice none 0 0))
      clear y0 y1 y2 f0 f1 f2
      generalize (((w2.setCell ⟨w.heap.size + 1, 0, none⟩ (.int .i64 0)).setCell ⟨w.heap.size + 1, 1, none⟩ (.slice none 0 0)).setCell ⟨w.heap.size + 1, 2, none⟩ (.slice none 0 0)) = w7 at *
      (try simp only [Exit.inBlock, Exit.then])
      refine bodyPost_ret (ret_cell2 rfl _ _ (w.heap.size + 1) _ _ _ _ rfl HZ3.out.1 Tryd.underlying25 rfl (by kernel_rfl)) rfl ?_
      exact ⟨_, none, 0, by rw [HEL.out, HEE.out]; rfl, by rw [HEM.out]; exact MoF.zero _ _, by rw [HEL.out]; exact Reads.none_, HZ3.out.2.1⟩
    · rw [if_neg h0] at HEE
      rw [HEE.out, if_pos rfl] at HEM HEL
      have hne : ((s : Int) == 0) = false := by simp; omega
      have HMEM := Lib.hid (fun W (hb : Below w.heap.size w W) => members_own s W HS.out (HT.out.belowAt hb HT.out.2))
      have HPK := Lib.hid (fun W (hb : Below w.heap.size w W) A c (h : Reads W W.heap.size 1 A (mem s).length (iv (mem s))) => pick_any m m.n.toNat (mem s) (.agg #[.int .i64 m.n, .slice A1 m.val.length c1, .slice A2 m.rel.length c2]) A (mem s).length c W (HM.out.below hb hb.size) HOK.out h (mem_length_le s) (mem_bound HSN.out))
      clear h0
      generalize hq1 : m.val.length = nv at *
      generalize hq2 : m.rel.length = nr at *
      clear hq1 hq2
      go_enter Tryd.func17, Tryd.ntmps17
      go_wp2_with fail
      refine (HC.out _ HR.out.below).mono ?_
      rintro e w2 ⟨rfl, hb2⟩
      have HR2 := Lib.hid (HR.out.keep hb2)
      clear hb2
      go_wp2_with fail
      refine (HMEM.out _ HR2.out.below).mono ?_
      rintro e w3 ⟨A3, c3, rfl, ho3, hb3⟩
      have HR3 := Lib.hid (HR2.out.keep hb3)
      have HO3 := Lib.hid ho3
      have b0 := HR3.out.box.c0
      have b1 := HR3.out.box.c1
      have b2 := HR3.out.box.c2
      clear ho3 hb3
      go_wp2_with fail
      refine (HPK.out _ HR3.out.below A3 c3 (Reads.of_own HO3.out)).mono ?_
      rintro e w4 ⟨v4, rfl, hm4, hb4⟩
      have HR4 := Lib.hid (HR3.out.keep hb4)
      obtain ⟨B1, d1, B2, d2, rfl, _, _⟩ := hm4.self.ex
      have hL4 : Below w3.heap.size w3 w4 := hb4
      have HM4 := Lib.hid (hm4.mono (show w.heap.size + 2 ≤ w3.heap.size by have := HR3.out.res.lt; omega))
      have HO4 := Lib.hid (own_keep1 HO3.out (fun g hg => hb4.block g (HO3.out.lt g hg).2))
      have HLO : Hid (w.heap.size + 2 ≤ w2.heap.size) := Lib.hid (by have := HR2.out.res.lt; omega)
      clear hm4 hb4 b0 b1 b2 hL4
      generalize pickM m (mem s) = pm at *
      have y0 := HR4.out.res.c0
      have y1 := HR4.out.res.c1
      have y2 := HR4.out.res.c2
      have f0 := HR4.out.res.free 0
      have f1 := HR4.out.res.free 1
      have f2 := HR4.out.res.free 2
      go_wp2
      have HZ3 := Lib.hid (HR4.out.fin pm.n (.slice B1 pm.val.length d1) (.slice B2 pm.rel.length d2))
      clear y0 y1 y2 f0 f1 f2
      generalize (((w4.setCell ⟨w.heap.size + 1, 0, none⟩ (.int .i64 pm.n)).setCell ⟨w.heap.size + 1, 1, none⟩ (.slice B1 pm.val.length d1)).setCell ⟨w.heap.size + 1, 2, none⟩ (.slice B2 pm.rel.length d2)) = w7 at *
      (try simp only [Exit.inBlock, Exit.then])
      refine bodyPost_ret (ret_cell2 rfl _ _ (w.heap.size + 1) _ _ _ _ rfl HZ3.out.1 Tryd.underlying25 rfl (by kernel_rfl)) rfl ?_
      rw [HEM.out, HEL.out, HEE.out]
      exact ⟨_, A3, c3, rfl, (HM4.out.only HZ3.out.2.2 (by omega)).mono (by omega), Reads.of_own (own_keep1 HO4.out (fun g hg => HZ3.out.2.2.block g (HO4.out.lt g hg).2 (by have := (HO4.out.lt g hg).1; have := HLO.out; omega))), HZ3.out.2.1⟩
  · have hz1 : (csE m s != 0) = true := by simpa using hz
    rw [if_neg hz] at HEE
    rw [HEE.out, if_neg hz] at HEM HEL
    generalize csE m s = cm at *
    clear hz
    generalize hq1 : m.val.length = nv at *
    generalize hq2 : m.rel.length = nr at *
    clear hq1 hq2
    go_enter Tryd.func17, Tryd.ntmps17
    go_wp2_with fail
    refine (HC.out _ HR.out.below).mono ?_
    rintro e w2 ⟨rfl, hb2⟩
    have HR2 := Lib.hid (HR.out.keep hb2)
    clear hb2
    have y0 := HR2.out.res.c0
    have y1 := HR2.out.res.c1
    have y2 := HR2.out.res.c2
    have f0 := HR2.out.res.free 0
    have f1 := HR2.out.res.free 1
    have f2 := HR2.out.res.free 2
    go_wp2
    have HZ3 := Lib.hid (HR2.out.fin 0 (.slice none 0 0) (.slice none 0 0))
    clear y0 y1 y2 f0 f1 f2
    generalize (((w2.setCell ⟨w.heap.size + 1, 0, none⟩ (.int .i64 0)).setCell ⟨w.heap.size + 1, 1, none⟩ (.slice none 0 0)).setCell ⟨w.heap.size + 1, 2, none⟩ (.slice none 0 0)) = w7 at *
    (try simp only [Exit.inBlock, Exit.then])
    refine bodyPost_ret (ret_cell2 rfl _ _ (w.heap.size + 1) _ _ _ _ rfl HZ3.out.1 Tryd.underlying25 rfl (by kernel_rfl)) rfl ?_
    exact ⟨_, none, 0, by rw [HEL.out, HEE.out]; rfl, by rw [HEM.out]; exact MoF.zero _ _, by rw [HEL.out]; exact Reads.none_, HZ3.out.2.1⟩
set_option maxHeartbeats 8000000 in
theorem rRestrict_any (m : Mo) (v : Value) (s : Nat) (w : World) (hM : MoR w w.heap.size v m) (hs : s < 18446744073709551616) :
    Calls Tryd.prog 18 #[v, .int .u64 (s : Int)] w fun e w' => ∃ v' A c, e = .returned (.tuple #[v', .slice A (restL m s).length c, .int .i64 (restE m s)]) ∧ MoF w' w.heap.size v' (restM m s) ∧ Reads w' w'.heap.size 1 A (restL m s).length (iv (restL m s)) ∧ Below w.heap.size w w' := by
  obtain ⟨A1, c1, A2, c2, rfl, hv, hr⟩ := hM.ex
  have HM := Lib.hid hM
  have HR := Lib.hid (Rs.made w m.n (.slice A1 m.val.length c1) (.slice A2 m.rel.length c2))
  have HC := Lib.hid (fun W (hb : Below w.heap.size w W) => rCheck_any m (.agg #[.int .i64 m.n, .slice A1 m.val.length c1, .slice A2 m.rel.length c2]) W (hM.below hb hb.size))
  have HS := Lib.hid hs
  have HEM : Hid (restM m s = if restE m s = 0 then pickM m (mem s) else mo0) := Lib.hid rfl
  have HEL : Hid (restL m s = if restE m s = 0 then mem s else []) := Lib.hid rfl
  have HEE : Hid (restE m s = if csE m s = 0 then (if s = 0 then 6 else 0) else csE m s) := Lib.hid rfl
  clear hM hv hr hs
  by_cases hz : chkM m = 0
  · have ok := chkM_ok hz
    have HOK := Lib.hid ok
    have HN := Lib.hid ok.num
    have hle := ok.le
    have HAL := Lib.hid (fun W => rAll_any m.n.toNat W hle)
    have HOF := Lib.hid (out_fact s m.n.toNat HS.out hle)
    have HCI := Lib.hid (fun h => csE_in (s := s) hz h)
    have HCO := Lib.hid (fun h => csE_out (s := s) hz h)
    rw [hz] at HC
    have hmn : m.n = (m.n.toNat : Int) := HN.out
    by_cases hsn : s < 2 ^ m.n.toNat
    · have HSN := Lib.hid hsn
      rw [HCI.out hsn, if_pos rfl] at HEE
      have hof := HOF.out
      rw [decide_eq_true hsn, Bool.not_true] at hof
      clear hsn HCI HCO HOF
      by_cases h0 : s = 0
      · have heq : ((s : Int) == 0) = true := by rw [h0]; rfl
        rw [if_pos h0] at HEE
        clear h0
        rw [HEE.out, if_neg (by decide)] at HEM HEL
        have HMV : Hid (∀ W g, MBox W g m.n (.slice A1 m.val.length c1) (.slice A2 m.rel.length c2) → W.cell? ⟨g, 0, none⟩ = some (.int .i64 (m.n.toNat : Int))) := Lib.hid (fun W g h => by rw [h.c0, ← hmn])
        clear hmn ok hz
        generalize hq1 : m.val.length = nv at *
        generalize hq2 : m.rel.length = nr at *
        clear hq1 hq2
        generalize m.n.toNat = n at *
        generalize 2 ^ n - 1 = al at *
        go_enter Tryd.func18, Tryd.ntmps18
        go_wp2_with fail
        refine (HC.out _ HR.out.below).mono ?_
        rintro e w2 ⟨rfl, hb2⟩
        have HR2 := Lib.hid (HR.out.keep hb2)
        clear hb2
        have b0 := HMV.out _ _ HR2.out.box
        go_wp2_with fail
        refine (HAL.out _).mono ?_
        rintro e w3 ⟨rfl, rfl⟩
        have y0 := HR2.out.res.c0
        have y1 := HR2.out.res.c1
        have y2 := HR2.out.res.c2
        have f0 := HR2.out.res.free 0
        have f1 := HR2.out.res.free 1
        have f2 := HR2.out.res.free 2
        go_wp2
        have HZ3 := Lib.hid (HR2.out.fin 0 (.slice none 0 0) (.slice none 0 0))
        clear y0 y1 y2 f0 f1 f2
        generalize (((w2.setCell ⟨w.heap.size + 1, 0, none⟩ (.int .i64 0)).setCell ⟨w.heap.size + 1, 1, none⟩ (.slice none 0 0)).setCell ⟨w.heap.size + 1, 2, none⟩ (.slice none 0 0)) = w7 at *
        (try simp only [Exit.inBlock, Exit.then])
        refine bodyPost_ret (ret_cell2 rfl _ _ (w.heap.size + 1) _ _ _ _ rfl HZ3.out.1 Tryd.underlying25 rfl (by kernel_rfl)) rfl ?_
        exact ⟨_, none, 0, by rw [HEL.out, HEE.out]; rfl, by rw [HEM.out]; exact MoF.zero _ _, by rw [HEL.out]; exact Reads.none_, HZ3.out.2.1⟩
      · rw [if_neg h0] at HEE
        rw [HEE.out, if_pos rfl] at HEM HEL
        have hne : ((s : Int) == 0) = false := by simp; omega
        have HMEM := Lib.hid (fun W (hb : Below w.heap.size w W) => rMembers_any s W HS.out)
        have HPK := Lib.hid (fun W (hb : Below w.heap.size w W) A c (h : Reads W W.heap.size 1 A (mem s).length (iv (mem s))) => take_any m m.n.toNat (mem s) (.agg #[.int .i64 m.n, .slice A1 m.val.length c1, .slice A2 m.rel.length c2]) A (mem s).length c W (HM.out.below hb hb.size) HOK.out h (mem_length_le s) (mem_bound HSN.out))
        have HMV : Hid (∀ W g, MBox W g m.n (.slice A1 m.val.length c1) (.slice A2 m.rel.length c2) → W.cell? ⟨g, 0, none⟩ = some (.int .i64 (m.n.toNat : Int))) := Lib.hid (fun W g h => by rw [h.c0, ← hmn])
        have HMN := Lib.hid hmn
        clear h0 hmn ok hz
        generalize hq1 : m.val.length = nv at *
        generalize hq2 : m.rel.length = nr at *
        clear hq1 hq2
        generalize m.n.toNat = n at *
        generalize 2 ^ n - 1 = al at *
        go_enter Tryd.func18, Tryd.ntmps18
        go_wp2_with fail
        refine (HC.out _ HR.out.below).mono ?_
        rintro e w2 ⟨rfl, hb2⟩
        have HR2 := Lib.hid (HR.out.keep hb2)
        clear hb2
        have b0 := HMV.out _ _ HR2.out.box
        go_wp2_with fail
        refine (HAL.out _).mono ?_
        rintro e w3 ⟨rfl, rfl⟩
        clear b0
        go_wp2_with fail
        refine (HMEM.out _ HR2.out.below).mono ?_
        rintro e w3 ⟨A3, c3, rfl, ho3, hb3⟩
        have HR3 := Lib.hid (HR2.out.keep hb3)
        have HO3 := Lib.hid ho3
        have b0 := HR3.out.box.c0
        have b1 := HR3.out.box.c1
        have b2 := HR3.out.box.c2
        clear ho3 hb3
        go_wp2_with fail
        refine (HPK.out _ HR3.out.below A3 c3 (Reads.of_own HO3.out)).mono ?_
        rintro e w4 ⟨v4, rfl, hm4, hb4⟩
        have HR4 := Lib.hid (HR3.out.keep hb4)
        obtain ⟨B1, d1, B2, d2, rfl, _, _⟩ := hm4.self.ex
        have hL4 : Below w3.heap.size w3 w4 := hb4
        have HM4 := Lib.hid (hm4.mono (show w.heap.size + 2 ≤ w3.heap.size by have := HR3.out.res.lt; omega))
        have HO4 := Lib.hid (own_keep1 HO3.out (fun g hg => hb4.block g (HO3.out.lt g hg).2))
        have HLO : Hid (w.heap.size + 2 ≤ w2.heap.size) := Lib.hid (by have := HR2.out.res.lt; omega)
        clear hm4 hb4 b0 b1 b2 hL4
        generalize pickM m (mem s) = pm at *
        have y0 := HR4.out.res.c0
        have y1 := HR4.out.res.c1
        have y2 := HR4.out.res.c2
        have f0 := HR4.out.res.free 0
        have f1 := HR4.out.res.free 1
        have f2 := HR4.out.res.free 2
        go_wp2
        have HZ3 := Lib.hid (HR4.out.fin pm.n (.slice B1 pm.val.length d1) (.slice B2 pm.rel.length d2))
        clear y0 y1 y2 f0 f1 f2
        generalize (((w4.setCell ⟨w.heap.size + 1, 0, none⟩ (.int .i64 pm.n)).setCell ⟨w.heap.size + 1, 1, none⟩ (.slice B1 pm.val.length d1)).setCell ⟨w.heap.size + 1, 2, none⟩ (.slice B2 pm.rel.length d2)) = w7 at *
        (try simp only [Exit.inBlock, Exit.then])
        refine bodyPost_ret (ret_cell2 rfl _ _ (w.heap.size + 1) _ _ _ _ rfl HZ3.out.1 Tryd.underlying25 rfl (by kernel_rfl)) rfl ?_
        rw [HEM.out, HEL.out, HEE.out]
        exact ⟨_, A3, c3, rfl, (HM4.out.only HZ3.out.2.2 (by omega)).mono (by omega), Reads.of_own (own_keep1 HO4.out (fun g hg => HZ3.out.2.2.block g (HO4.out.lt g hg).2 (by have := (HO4.out.lt g hg).1; have := HLO.out; omega))), HZ3.out.2.1⟩
    · rw [HCO.out hsn, if_neg (by decide)] at HEE
      have hof := HOF.out
      rw [decide_eq_false hsn, Bool.not_false] at hof
      rw [HEE.out, if_neg (by decide)] at HEM HEL
      have HMV : Hid (∀ W g, MBox W g m.n (.slice A1 m.val.length c1) (.slice A2 m.rel.length c2) → W.cell? ⟨g, 0, none⟩ = some (.int .i64 (m.n.toNat : Int))) := Lib.hid (fun W g h => by rw [h.c0, ← hmn])
      clear hmn ok hz hsn HCI HCO HOF
      generalize hq1 : m.val.length = nv at *
      generalize hq2 : m.rel.length = nr at *
      clear hq1 hq2
      generalize m.n.toNat = n at *
      generalize 2 ^ n - 1 = al at *
      go_enter Tryd.func18, Tryd.ntmps18
      go_wp2_with fail
      refine (HC.out _ HR.out.below).mono ?_
      rintro e w2 ⟨rfl, hb2⟩
      have HR2 := Lib.hid (HR.out.keep hb2)
      clear hb2
      have b0 := HMV.out _ _ HR2.out.box
      go_wp2_with fail
      refine (HAL.out _).mono ?_
      rintro e w3 ⟨rfl, rfl⟩
      have y0 := HR2.out.res.c0
      have y1 := HR2.out.res.c1
      have y2 := HR2.out.res.c2
      have f0 := HR2.out.res.free 0
      have f1 := HR2.out.res.free 1
      have f2 := HR2.out.res.free 2
      go_wp2
      have HZ3 := Lib.hid (HR2.out.fin 0 (.slice none 0 0) (.slice none 0 0))
      clear y0 y1 y2 f0 f1 f2
      generalize (((w2.setCell ⟨w.heap.size + 1, 0, none⟩ (.int .i64 0)).setCell ⟨w.heap.size + 1, 1, none⟩ (.slice none 0 0)).setCell ⟨w.heap.size + 1, 2, none⟩ (.slice none 0 0)) = w7 at *
      (try simp only [Exit.inBlock, Exit.then])
      refine bodyPost_ret (ret_cell2 rfl _ _ (w.heap.size + 1) _ _ _ _ rfl HZ3.out.1 Tryd.underlying25 rfl (by kernel_rfl)) rfl ?_
      exact ⟨_, none, 0, by rw [HEL.out, HEE.out]; rfl, by rw [HEM.out]; exact MoF.zero _ _, by rw [HEL.out]; exact Reads.none_, HZ3.out.2.1⟩
  · have hz1 : (chkM m != 0) = true := by simpa using hz
    rw [csE_bad hz, if_neg hz] at HEE
    rw [HEE.out, if_neg hz] at HEM HEL
    generalize chkM m = cm at *
    clear hz
    generalize hq1 : m.val.length = nv at *
    generalize hq2 : m.rel.length = nr at *
    clear hq1 hq2
    go_enter Tryd.func18, Tryd.ntmps18
    go_wp2_with fail
    refine (HC.out _ HR.out.below).mono ?_
    rintro e w2 ⟨rfl, hb2⟩
    have HR2 := Lib.hid (HR.out.keep hb2)
    clear hb2
    have y0 := HR2.out.res.c0
    have y1 := HR2.out.res.c1
    have y2 := HR2.out.res.c2
    have f0 := HR2.out.res.free 0
    have f1 := HR2.out.res.free 1
    have f2 := HR2.out.res.free 2
    go_wp2
    have HZ3 := Lib.hid (HR2.out.fin 0 (.slice none 0 0) (.slice none 0 0))
    clear y0 y1 y2 f0 f1 f2
    generalize (((w2.setCell ⟨w.heap.size + 1, 0, none⟩ (.int .i64 0)).setCell ⟨w.heap.size + 1, 1, none⟩ (.slice none 0 0)).setCell ⟨w.heap.size + 1, 2, none⟩ (.slice none 0 0)) = w7 at *
    (try simp only [Exit.inBlock, Exit.then])
    refine bodyPost_ret (ret_cell2 rfl _ _ (w.heap.size + 1) _ _ _ _ rfl HZ3.out.1 Tryd.underlying25 rfl (by kernel_rfl)) rfl ?_
    exact ⟨_, none, 0, by rw [HEL.out, HEE.out]; rfl, by rw [HEM.out]; exact MoF.zero _ _, by rw [HEL.out]; exact Reads.none_, HZ3.out.2.1⟩
end Go.Proofs.YtofclgapgjcflaaDoor
