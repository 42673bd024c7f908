/- Layer 13: the disjoint union, by the reference. -/
import Derived.Test.YtofclgapgjcflaaDoorDt
import Derived.Test.YtofclgapgjcflaaDoorEq
import Derived.Deep.RegionHeld3
namespace Go.Proofs.YtofclgapgjcflaaDoor
open Go.RowKit Go.Proofs.Ws
set_option maxRecDepth 100000
/-- a union that the reference makes: both parameters, the result's cell, the part -/
structure Tu (w wx : World) (na nb : Int) (a1 a2 b1 b2 : Value) (P k : Nat) (VV RV : Value) : Prop where
  boxA : MBox wx w.heap.size na a1 a2
  boxB : MBox wx (w.heap.size + 1) nb b1 b2
  res : MBox wx (w.heap.size + 1 + 1) 0 (.slice none 0 0) (.slice none 0 0)
  part : MBox wx P (k : Int) VV RV
  below : Below w.heap.size w wx
  lt : w.heap.size + 1 + 1 < P
  size : P < wx.heap.size
section
variable {w wx wy : World} {na nb : Int} {a1 a2 b1 b2 VV RV : Value} {P k : Nat}
theorem Tu.keep (h : Tu w wx na nb a1 a2 b1 b2 P k VV RV) (hb : Below (P + 1) wx wy) : Tu w wy na nb a1 a2 b1 b2 P k VV RV := by
  have hl := h.lt
  exact ⟨(hb.block _ (by omega)).trans h.boxA, (hb.block _ (by omega)).trans h.boxB, (hb.block _ (by omega)).trans h.res, (hb.block _ (by omega)).trans h.part, h.below.trans (hb.mono (by omega)), hl, Nat.lt_of_lt_of_le h.size hb.size⟩
theorem Tu.put1 (h : Tu w wx na nb a1 a2 b1 b2 P k VV RV) (v : Value) : Tu w (wx.setCell ⟨P, 1, none⟩ v) na nb a1 a2 b1 b2 P k v RV := by
  have hb := OnlyB.set P 1 wx v
  have hs := h.size
  have hl := h.lt
  refine ⟨(hb.block _ (by omega) (by omega)).trans h.boxA, (hb.block _ (by omega) (by omega)).trans h.boxB, (hb.block _ (by omega) (by omega)).trans h.res, ?_, h.below.trans (hb.below (by omega) (by omega)), hl, Nat.lt_of_lt_of_le hs hb.size⟩
  have hp := h.part
  unfold MBox at hp ⊢
  simp [World.setCell, Array.getElem?_modify, hp]
theorem Tu.put2 (h : Tu w wx na nb a1 a2 b1 b2 P k VV RV) (v : Value) : Tu w (wx.setCell ⟨P, 2, none⟩ v) na nb a1 a2 b1 b2 P k VV v := by
  have hb := OnlyB.set P 2 wx v
  have hs := h.size
  have hl := h.lt
  refine ⟨(hb.block _ (by omega) (by omega)).trans h.boxA, (hb.block _ (by omega) (by omega)).trans h.boxB, (hb.block _ (by omega) (by omega)).trans h.res, ?_, h.below.trans (hb.below (by omega) (by omega)), hl, Nat.lt_of_lt_of_le hs hb.size⟩
  have hp := h.part
  unfold MBox at hp ⊢
  simp [World.setCell, Array.getElem?_modify, hp]
end
theorem Tu.start {w w3 : World} {na nb : Int} {a1 a2 b1 b2 : Value} {k : Nat} (h : Rs2 w w3 na a1 a2 nb b1 b2) :
    Tu w (w3.alloc (.cells #[.int .i64 (k : Int), .slice none 0 0, .slice none 0 0] 25)) na nb a1 a2 b1 b2 w3.heap.size k (.slice none 0 0) (.slice none 0 0) := by
  have h2 := h.keep (wy := w3.alloc (.cells #[.int .i64 (k : Int), .slice none 0 0, .slice none 0 0] 25)) ((Below.refl _ w3).alloc (Nat.le_refl _) _)
  exact ⟨h2.boxA, h2.boxB, h2.res, MBox.made w3 _ _ _, h2.below, h.res.lt, by simp⟩
theorem MoR.unionO {W : World} {lo K nv nr : Nat} {Av Ar : Option Addr} {cv cr : Nat} {V : Nat → Nat} {R : Nat → List Nat} (hK : K ≤ 64) (hv : W.ownsRow lo 31 1 (.slice Av nv cv) nv (us ((List.range nv).map V))) (hr : UsR W W.heap.size Ar nr ((List.range nr).map R))
    (hw : ∀ j, V j < 18446744073709551616) (hx : ∀ j, j < nr → ∀ x ∈ R j, x < 18446744073709551616) (hn : nv ≤ 8 ∧ nr ≤ 4) :
    MoR W W.heap.size (.agg #[.int .i64 (K : Int), .slice Av nv cv, .slice Ar nr cr]) ⟨(K : Int), (List.range nv).map V, (List.range nr).map R⟩ := by
  have lv : ((List.range nv).map V).length = nv := by simp
  have lr : ((List.range nr).map R).length = nr := by simp
  refine ⟨⟨Av, cv, Ar, cr, by dsimp only; rw [lv, lr], by dsimp only; rw [lv]; exact Reads.of_own hv, by dsimp only; rw [lr]; exact hr⟩, ⟨by dsimp only; rw [lv]; unfold maxLen; omega, by dsimp only; rw [lr]; unfold maxLen; omega⟩, ⟨by dsimp only; omega, by dsimp only; omega⟩, fun x hx => ?_, fun r hr => ?_⟩
  · obtain ⟨i, _, rfl⟩ := List.mem_map.1 hx
    exact hw i
  · obtain ⟨i, hi, rfl⟩ := List.mem_map.1 hr
    exact hx i (List.mem_range.1 hi)
set_option maxHeartbeats 16000000 in
theorem rUnion_any (a b : Mo) (v v' : Value) (w : World) (hM : MoR w w.heap.size v a) (hM2 : MoR w w.heap.size v' b) :
    Calls Tryd.prog 24 #[v, v'] w fun e w' => ∃ u, e = .returned (.tuple #[u, .int .i64 (unionE a b)]) ∧ MoF w' w.heap.size u (unionM a b) ∧ Below w.heap.size w w' := by
  obtain ⟨A1, c1, A2, c2, rfl, hv, hr⟩ := hM.ex
  obtain ⟨B1, d1, B2, d2, rfl, hv2, hr2⟩ := hM2.ex
  have HR := Lib.hid (Rs2.made w a.n (.slice A1 a.val.length c1) (.slice A2 a.rel.length c2) b.n (.slice B1 b.val.length d1) (.slice B2 b.rel.length d2))
  have HCA := Lib.hid (fun W (hb : Below w.heap.size w W) => rCheck_any a (.agg #[.int .i64 a.n, .slice A1 a.val.length c1, .slice A2 a.rel.length c2]) W (hM.below hb hb.size))
  have HCB := Lib.hid (fun W (hb : Below w.heap.size w W) => rCheck_any b (.agg #[.int .i64 b.n, .slice B1 b.val.length d1, .slice B2 b.rel.length d2]) W (hM2.below hb hb.size))
  have HVA := Lib.hid hv
  have HVB := Lib.hid hv2
  have HRA := Lib.hid hr
  have HRB := Lib.hid hr2
  have HMA := Lib.hid hM
  have HMB := Lib.hid hM2
  have hlA := hM.lim
  have hlB := hM2.lim
  unfold maxLen at hlA hlB
  clear hM hM2 hv hv2 hr hr2
  by_cases hza : chkM a = 0
  · rw [hza] at HCA
    by_cases hzb : chkM b = 0
    · rw [hzb] at HCB
      have oka := chkM_ok hza
      have okb := chkM_ok hzb
      by_cases h3 : a.rel.length ≠ b.rel.length ∨ a.val.length ≠ b.val.length
      · have HE := Lib.hid (unionE_l hza hzb h3)
        clear oka okb hza hzb
        by_cases h5 : a.rel.length = b.rel.length
        · have h6 : a.val.length ≠ b.val.length := by rcases h3 with h | h; exact absurd h5 h; exact h
          have d1' : ((a.rel.length : Int) != (b.rel.length : Int)) = false := by rw [h5]; simp
          have d2' : ((a.val.length : Int) != (b.val.length : Int)) = true := by rw [bne_iff_ne]; omega
          clear h3 h5 h6
          generalize hq1 : a.val.length = va at *
          generalize hq2 : a.rel.length = ra at *
          generalize hq3 : b.val.length = vb at *
          generalize hq4 : b.rel.length = rb at *
          clear hq1 hq2 hq3 hq4
          go_enter Tryd.func24, Tryd.ntmps24
          go_wp2_with fail
          refine (HCA.out _ HR.out.below).mono ?_
          rintro e w2 ⟨rfl, hb2⟩
          have HR2 := Lib.hid (HR.out.keep hb2)
          clear hb2
          have g0 := HR2.out.boxB.c0
          have g1 := HR2.out.boxB.c1
          have g2 := HR2.out.boxB.c2
          go_wp2_with fail
          refine (HCB.out _ HR2.out.below).mono ?_
          rintro e w3 ⟨rfl, hb3⟩
          have HRX := Lib.hid (HR2.out.keep hb3)
          clear hb3 g0 g1 g2
          have z0 := HRX.out.boxA.c1
          have z1 := HRX.out.boxA.c2
          have z2 := HRX.out.boxB.c1
          have z3 := HRX.out.boxB.c2
          have y0 := HRX.out.res.c0
          have y1 := HRX.out.res.c1
          have y2 := HRX.out.res.c2
          have f0 := HRX.out.res.free 0
          have f1 := HRX.out.res.free 1
          have f2 := HRX.out.res.free 2
          go_wp2
          have HZ3 := Lib.hid (res_fin HRX.out.res HRX.out.below 0 (.slice none 0 0) (.slice none 0 0))
          clear y0 y1 y2 f0 f1 f2
          generalize (((w3.setCell ⟨w.heap.size + 1 + 1, 0, none⟩ (.int .i64 0)).setCell ⟨w.heap.size + 1 + 1, 1, none⟩ (.slice none 0 0)).setCell ⟨w.heap.size + 1 + 1, 2, none⟩ (.slice none 0 0)) = w7 at *
          (try simp only [Exit.inBlock, Exit.then])
          refine bodyPost_ret (ret_cellT rfl _ _ (w.heap.size + 1 + 1) _ _ _ _ rfl HZ3.out.1 Tryd.underlying25 rfl (by kernel_rfl)) rfl ?_
          exact ⟨_, by rw [HE.out.1]; rfl, by rw [HE.out.2]; exact MoF.zero _ _, HZ3.out.2.1⟩
        · have d1' : ((a.rel.length : Int) != (b.rel.length : Int)) = true := by rw [bne_iff_ne]; omega
          clear h3 h5
          generalize hq1 : a.val.length = va at *
          generalize hq2 : a.rel.length = ra at *
          generalize hq3 : b.val.length = vb at *
          generalize hq4 : b.rel.length = rb at *
          clear hq1 hq2 hq3 hq4
          go_enter Tryd.func24, Tryd.ntmps24
          go_wp2_with fail
          refine (HCA.out _ HR.out.below).mono ?_
          rintro e w2 ⟨rfl, hb2⟩
          have HR2 := Lib.hid (HR.out.keep hb2)
          clear hb2
          have g0 := HR2.out.boxB.c0
          have g1 := HR2.out.boxB.c1
          have g2 := HR2.out.boxB.c2
          go_wp2_with fail
          refine (HCB.out _ HR2.out.below).mono ?_
          rintro e w3 ⟨rfl, hb3⟩
          have HRX := Lib.hid (HR2.out.keep hb3)
          clear hb3 g0 g1 g2
          have z1 := HRX.out.boxA.c2
          have z3 := HRX.out.boxB.c2
          have y0 := HRX.out.res.c0
          have y1 := HRX.out.res.c1
          have y2 := HRX.out.res.c2
          have f0 := HRX.out.res.free 0
          have f1 := HRX.out.res.free 1
          have f2 := HRX.out.res.free 2
          go_wp2
          have HZ3 := Lib.hid (res_fin HRX.out.res HRX.out.below 0 (.slice none 0 0) (.slice none 0 0))
          clear y0 y1 y2 f0 f1 f2
          generalize (((w3.setCell ⟨w.heap.size + 1 + 1, 0, none⟩ (.int .i64 0)).setCell ⟨w.heap.size + 1 + 1, 1, none⟩ (.slice none 0 0)).setCell ⟨w.heap.size + 1 + 1, 2, none⟩ (.slice none 0 0)) = w7 at *
          (try simp only [Exit.inBlock, Exit.then])
          refine bodyPost_ret (ret_cellT rfl _ _ (w.heap.size + 1 + 1) _ _ _ _ rfl HZ3.out.1 Tryd.underlying25 rfl (by kernel_rfl)) rfl ?_
          exact ⟨_, by rw [HE.out.1]; rfl, by rw [HE.out.2]; exact MoF.zero _ _, HZ3.out.2.1⟩
      · have hrl : b.rel.length = a.rel.length := by omega
        have hvl : b.val.length = a.val.length := by omega
        have HNA := Lib.hid oka.num
        have HNB := Lib.hid okb.num
        have hla := oka.le
        have hlb := okb.le
        have hpa := oka.pos
        have hpb := okb.pos
        have hag := oka.agents
        have hfa := oka.facts
        by_cases h4 : 64 < a.n + b.n
        · have HE := Lib.hid (unionE_m hza hzb h3 h4)
          have hs : decide ((64 : Int) < (a.n.toNat : Int) + (b.n.toNat : Int)) = true := decide_eq_true (by have := HNA.out; have := HNB.out; omega)
          have HMVA : Hid (∀ W g v1 v2, MBox W g a.n v1 v2 → W.cell? ⟨g, 0, none⟩ = some (.int .i64 (a.n.toNat : Int))) := Lib.hid (fun W g v1 v2 h => by rw [h.c0, ← HNA.out])
          have HMVB : Hid (∀ W g v1 v2, MBox W g b.n v1 v2 → W.cell? ⟨g, 0, none⟩ = some (.int .i64 (b.n.toNat : Int))) := Lib.hid (fun W g v1 v2 h => by rw [h.c0, ← HNB.out])
          rw [hrl, hvl] at HR HCB HMB ⊢
          rw [hvl] at HVB
          rw [hrl] at HRB
          have d1' : ((a.rel.length : Int) != (a.rel.length : Int)) = false := by simp
          have d2' : ((a.val.length : Int) != (a.val.length : Int)) = false := by simp
          clear h3 h4 hrl hvl oka okb hza hzb HNA HNB
          generalize hq1 : a.val.length = va at *
          generalize hq2 : a.rel.length = ra at *
          clear hq1 hq2
          generalize a.n.toNat = na at *
          generalize b.n.toNat = nb at *
          go_enter Tryd.func24, Tryd.ntmps24
          go_wp2_with fail
          refine (HCA.out _ HR.out.below).mono ?_
          rintro e w2 ⟨rfl, hb2⟩
          have HR2 := Lib.hid (HR.out.keep hb2)
          clear hb2
          have g0 := HR2.out.boxB.c0
          have g1 := HR2.out.boxB.c1
          have g2 := HR2.out.boxB.c2
          go_wp2_with fail
          refine (HCB.out _ HR2.out.below).mono ?_
          rintro e w3 ⟨rfl, hb3⟩
          have HRX := Lib.hid (HR2.out.keep hb3)
          clear hb3 g0 g1 g2
          have z0 := HRX.out.boxA.c1
          have z1 := HRX.out.boxA.c2
          have z2 := HRX.out.boxB.c1
          have z3 := HRX.out.boxB.c2
          have z4 := HMVA.out _ _ _ _ HRX.out.boxA
          have z5 := HMVB.out _ _ _ _ HRX.out.boxB
          have y0 := HRX.out.res.c0
          have y1 := HRX.out.res.c1
          have y2 := HRX.out.res.c2
          have f0 := HRX.out.res.free 0
          have f1 := HRX.out.res.free 1
          have f2 := HRX.out.res.free 2
          go_wp2
          have HZ3 := Lib.hid (res_fin HRX.out.res HRX.out.below 0 (.slice none 0 0) (.slice none 0 0))
          clear y0 y1 y2 f0 f1 f2
          generalize (((w3.setCell ⟨w.heap.size + 1 + 1, 0, none⟩ (.int .i64 0)).setCell ⟨w.heap.size + 1 + 1, 1, none⟩ (.slice none 0 0)).setCell ⟨w.heap.size + 1 + 1, 2, none⟩ (.slice none 0 0)) = w7 at *
          (try simp only [Exit.inBlock, Exit.then])
          refine bodyPost_ret (ret_cellT rfl _ _ (w.heap.size + 1 + 1) _ _ _ _ rfl HZ3.out.1 Tryd.underlying25 rfl (by kernel_rfl)) rfl ?_
          exact ⟨_, by rw [HE.out.1]; rfl, by rw [HE.out.2]; exact MoF.zero _ _, HZ3.out.2.1⟩
        · have HE := Lib.hid (unionE_ok hza hzb h3 h4)
          have hs : decide ((64 : Int) < (a.n.toNat : Int) + (b.n.toNat : Int)) = false := decide_eq_false (by have := HNA.out; have := HNB.out; omega)
          have hsum : a.n.toNat + b.n.toNat ≤ 64 := by have := HNA.out; have := HNB.out; omega
          have HSUM : Hid (a.n + b.n = ((a.n.toNat + b.n.toNat : Nat) : Int)) := Lib.hid (by have := HNA.out; have := HNB.out; omega)
          have HMVA : Hid (∀ W g v1 v2, MBox W g a.n v1 v2 → W.cell? ⟨g, 0, none⟩ = some (.int .i64 (a.n.toNat : Int))) := Lib.hid (fun W g v1 v2 h => by rw [h.c0, ← HNA.out])
          have HMVB : Hid (∀ W g v1 v2, MBox W g b.n v1 v2 → W.cell? ⟨g, 0, none⟩ = some (.int .i64 (b.n.toNat : Int))) := Lib.hid (fun W g v1 v2 h => by rw [h.c0, ← HNB.out])
          rw [hrl, hvl] at HR HCB HMB ⊢
          rw [hvl] at HVB
          rw [hrl] at HRB
          have d1' : ((a.rel.length : Int) != (a.rel.length : Int)) = false := by simp
          have d2' : ((a.val.length : Int) != (a.val.length : Int)) = false := by simp
          have HKA := Lib.hid oka
          have HKB := Lib.hid okb
          have HLR := Lib.hid hrl
          have HLV := Lib.hid hvl
          have HEM : Hid (unionM a b = ⟨a.n + b.n, (List.range a.val.length).map (unionV a b), (List.range a.rel.length).map (unionR a b)⟩) := Lib.hid HE.out.2
          clear h3 h4 hrl hvl oka okb hza hzb HNA HNB hlA hlB
          have HUV : Hid (∀ i, unionV a b i = a.val.getD i 0 ||| (b.val.getD i 0) * 2 ^ a.n.toNat) := Lib.hid (fun _ => rfl)
          have HUR : Hid (∀ i, unionR a b i = a.rel.getD i [] ++ shR (b.rel.getD i []) a.n.toNat) := Lib.hid (fun _ => rfl)
          generalize hq1 : a.val.length = nv at *
          generalize hq2 : a.rel.length = nr at *
          have HQV := Lib.hid hq1
          have HQR := Lib.hid hq2
          clear hq1 hq2
          generalize a.n.toNat = na at *
          generalize b.n.toNat = nb at *
          have HWA := Lib.hid (fun j => words_getD HMA.out.wval j)
          have HWB : Hid (∀ j, b.val.getD j 0 < 2 ^ nb) := Lib.hid (fun j => by
            by_cases hj : j < b.val.length
            · exact HKB.out.val _ (getD_mem' hj)
            · rw [List.getD_eq_getElem?_getD, List.getElem?_eq_none (by omega)]; exact Nat.two_pow_pos nb)
          have HXB := Lib.hid (fun i j => relW_lt HKB.out.rel i j)
          have HLA := Lib.hid (fun i (h : i < nr) => HKA.out.len (a.rel.getD i []) (getD_mem' (by have := HQR.out; omega)))
          have HLB := Lib.hid (fun i (h : i < nr) => HKB.out.len (b.rel.getD i []) (getD_mem' (by have := HQR.out; have := HLR.out; omega)))
          go_enter Tryd.func24, Tryd.ntmps24
          go_wp2_with fail
          refine (HCA.out _ HR.out.below).mono ?_
          rintro e w2 ⟨rfl, hb2⟩
          have HR2 := Lib.hid (HR.out.keep hb2)
          clear hb2
          have g0 := HR2.out.boxB.c0
          have g1 := HR2.out.boxB.c1
          have g2 := HR2.out.boxB.c2
          go_wp2_with fail
          refine (HCB.out _ HR2.out.below).mono ?_
          rintro e w3 ⟨rfl, hb3⟩
          have HRX := Lib.hid (HR2.out.keep hb3)
          clear hb3 g0 g1 g2
          have z0 := HRX.out.boxA.c1
          have z1 := HRX.out.boxA.c2
          have z2 := HRX.out.boxB.c1
          have z3 := HRX.out.boxB.c2
          have z4 := HMVA.out _ _ _ _ HRX.out.boxA
          have z5 := HMVB.out _ _ _ _ HRX.out.boxB
          have HTU := Lib.hid (Tu.start (k := na + nb) HRX.out)
          have hnr8 : nv ≤ 8 ∧ nr ≤ 4 := ⟨hfa, hag⟩
          go_wp2
          clear z0 z1 z2 z3 z4 z5
          have HT0 : Hid (Tu w (w3.alloc (.cells #[.int .i64 ((na : Int) + (nb : Int)), .slice none 0 0, .slice none 0 0] 25)) a.n b.n (.slice A1 nv c1) (.slice A2 nr c2) (.slice B1 nv d1) (.slice B2 nr d2) w3.heap.size (na + nb) (.slice none 0 0) (.slice none 0 0)) := HTU
          generalize w3.alloc (.cells #[.int .i64 ((na : Int) + (nb : Int)), .slice none 0 0, .slice none 0 0] 25) = w4 at *
          generalize w3.heap.size = P at *
          generalize hKK : na + nb = K at *
          have HKK := Lib.hid hKK
          clear hKK
          have hK64 : K ≤ 64 := hsum
          clear hsum hs HTU
          obtain ⟨i0, hi0, hz0, hz1', hz2'⟩ := info_parts Tryd.infoU
          go_loopw [8] (fun i wr => ∃ (j : Nat) (VV : Value), j ≤ nv ∧ i = .int .i64 j ∧ Hid (Tu w wr a.n b.n (.slice A1 nv c1) (.slice A2 nr c2) (.slice B1 nv d1) (.slice B2 nr d2) P K VV (.slice none 0 0)) ∧ Hid (wr.ownsRow (P + 1) 31 1 VV j (us ((List.range j).map (unionV a b))))) (fun i _ => nv - (intOf i).toNat)
          case atStart => exact ⟨0, .slice none 0 0, Nat.zero_le _, rfl, HT0, Lib.hid (World.ownsRow_nil _ _ _ _)⟩
          case round =>
            obtain ⟨j, VV, hj, rfl, HT, HO⟩ := hrel
            have z1 := HT.out.boxA.c1
            by_cases hlt : j < nv
            · have z2 := HT.out.boxB.c1
              have z4 := HMVA.out _ _ _ _ HT.out.boxA
              obtain ⟨adA, rfl, hbA, hcA⟩ := (HVA.out.below HT.out.below).word_k hlt
              obtain ⟨adB, rfl, hbB, hcB⟩ := (HVB.out.below HT.out.below).word_k hlt
              have hsf := shl_fit (HWB.out j) (show na + nb ≤ 64 by have := HKK.out; omega)
              have hor := u64_or_nat (a.val.getD j 0) (b.val.getD j 0 * 2 ^ na) (HWA.out j) hsf.1
              have HUJ := Lib.hid (HUV.out j)
              have hsh := hsf.2
              have p1 := HT.out.part.c1
              have hsz := HT.out.size
              clear hsf
              generalize a.val.getD j 0 = xa at *
              generalize b.val.getD j 0 = xb at *
              generalize xb * 2 ^ na = xs at *
              generalize xa ||| xs = xo at *
              have hsz0 : P < wr.heap.size := hsz
              have hlP := HT.out.lt
              have HC : Hid (∀ W, Below (P + 1) wr W → W.cell? ⟨w.heap.size, 1, none⟩ = some (.slice (some adA) nv c1) ∧ W.cell? ⟨w.heap.size + 1, 1, none⟩ = some (.slice (some adB) nv d1) ∧ W.cell? ⟨w.heap.size, 0, none⟩ = some (.int .i64 (na : Int)) ∧ W.cell? (adA.add j) = some (.int .u64 (xa : Int)) ∧ W.cell? (adB.add j) = some (.int .u64 (xb : Int)) ∧ W.cell? ⟨P, 1, none⟩ = some VV ∧ W.frozen? ⟨P, 1, none⟩ = false) := Lib.hid (fun W h => by
                have hk := HT.out.keep h
                exact ⟨hk.boxA.c1, hk.boxB.c1, HMVA.out _ _ _ _ hk.boxA, (h.cell (by rw [block_of_add]; omega)).trans hcA, (h.cell (by rw [block_of_add]; omega)).trans hcB, hk.part.c1, hk.part.free 1⟩)
              clear hbA hbB hcA hcB z2 z4
              go_wp2
              refine wp_region_bas [.pointer (some ⟨P, 1, none⟩), VV, .pointer (some ⟨w.heap.size, 1, none⟩), .slice (some adA) nv c1, .int .i64 (j : Int), .pointer (some (adA.add j)), .int .u64 (xa : Int), .pointer (some ⟨w.heap.size + 1, 1, none⟩), .slice (some adB) nv d1, .int .i64 (j : Int), .pointer (some (adB.add j)), .int .u64 (xb : Int), .pointer (some ⟨w.heap.size, 0, none⟩), .int .i64 (na : Int), .int .u64 (xs : Int), .int .u64 (xo : Int), undef, undef, .pointer (some ⟨P, 1, none⟩)] 62 16 17 19 132 (fun W => Below (P + 1) wr W) (fun W => Below (P + 1) wr W ∧ W.ownsRow (P + 1) 31 1 (VV) (j) (us ((List.range j).map (unionV a b)))) (fun W => ∃ (W0 : World) (A3 : Option Addr) (c3 : Nat), W = W0.setCell ⟨P, 1, none⟩ (.slice A3 (j + 1) c3) ∧ Below (P + 1) wr W0 ∧ W0.ownsRow (P + 1) 31 1 (.slice A3 (j + 1) c3) (j + 1) (us ((List.range j).map (unionV a b) ++ [xo]))) (fun W v => Below (P + 1) wr W ∧ W.ownsRow (P + 1) 31 1 (VV) (j) (us ((List.range j).map (unionV a b))) ∧ ∃ g : Nat, v = .slice (some ⟨g, 0, none⟩) 1 1 ∧ W.cell? ⟨g, 0, none⟩ = some (.int .u64 (xo : Int))) (fun W v => Below (P + 1) wr W ∧ ∃ (A3 : Option Addr) (c3 : Nat), v = .slice A3 (j + 1) c3 ∧ W.ownsRow (P + 1) 31 1 (.slice A3 (j + 1) c3) (j + 1) (us ((List.range j).map (unionV a b) ++ [xo]))) rfl rfl (by omega) (by omega) (by omega) (by omega) (by kernel_rfl) (by kernel_rfl) (by kernel_rfl) (by kernel_rfl) (by kernel_rfl) ⟨(Below.refl _ wr).drew, HO.out⟩ (fun W h => h.1) (fun W v h => h.1) (fun W v h => h.1) ?hpure ?hB ?hA ?hL ?fin
              case hpure =>
                refine (lt_more (lt_more (lt_more (lt_more (lt_more (lt_more (lt_more (lt_more (lt_more (lt_more (lt_more (lt_more (lt_more (lt_more (lt_more (lt_more (lt_more (lt_more (lt_more (lt_none _) (fun _ _ => ?s0)) (fun _ _ => ?s1)) (fun _ _ => ?s2)) (fun _ _ => ?s3)) (fun _ _ => ?s4)) (fun _ _ => ?s5)) (fun _ _ => ?s6)) (fun _ _ => ?s7)) (fun _ _ => ?s8)) (fun _ _ => ?s9)) (fun _ _ => ?s10)) (fun _ _ => ?s11)) (fun _ _ => ?s12)) (fun _ _ => ?s13)) (fun _ _ => ?s14)) (fun _ _ => ?s15)) (fun h _ => absurd rfl h)) (fun _ h => absurd rfl h)) (fun _ _ => ?s18))
                case s0 =>
                  intro o ho a W hS ⟨hsz, hdf, hfr, hdep⟩ K hK
                  obtain ⟨tm, df⟩ := a
                  have hdf : df = [] := hdf
                  subst hdf
                  have ho := Option.some.inj ho
                  subst ho
                  have hsz : tm.size = 132 := hsz
                  have t7 : tm.getD 7 undef = .pointer (some ⟨P, 0, none⟩) := hfr 7 (by intro j hj; omega)
                  clear hdep hfr
                  go_simp
                  exact hK
                case s1 =>
                  intro o ho a W hS ⟨hsz, hdf, hfr, hdep⟩ K hK
                  obtain ⟨tm, df⟩ := a
                  have hdf : df = [] := hdf
                  subst hdf
                  have ho := Option.some.inj ho
                  subst ho
                  have hsz : tm.size = 132 := hsz
                  have t62 : tm.getD 62 undef = .pointer (some ⟨P, 1, none⟩) := hdep ⟨0, .data⟩ (by simp) (by rfl) (by decide) (by decide) (by decide)
                  obtain ⟨cz0, cz1, cz2, cz3, cz4, cz5, _⟩ := HC.out W hS
                  clear hdep hfr
                  go_simp
                  exact hK
                case s2 =>
                  intro o ho a W hS ⟨hsz, hdf, hfr, hdep⟩ K hK
                  obtain ⟨tm, df⟩ := a
                  have hdf : df = [] := hdf
                  subst hdf
                  have ho := Option.some.inj ho
                  subst ho
                  have hsz : tm.size = 132 := hsz
                  have t2 : tm.getD 2 undef = .pointer (some ⟨w.heap.size, 0, none⟩) := hfr 2 (by intro j hj; omega)
                  clear hdep hfr
                  go_simp
                  exact hK
                case s3 =>
                  intro o ho a W hS ⟨hsz, hdf, hfr, hdep⟩ K hK
                  obtain ⟨tm, df⟩ := a
                  have hdf : df = [] := hdf
                  subst hdf
                  have ho := Option.some.inj ho
                  subst ho
                  have hsz : tm.size = 132 := hsz
                  have t64 : tm.getD 64 undef = .pointer (some ⟨w.heap.size, 1, none⟩) := hdep ⟨2, .data⟩ (by simp) (by rfl) (by decide) (by decide) (by decide)
                  obtain ⟨cz0, cz1, cz2, cz3, cz4, cz5, _⟩ := HC.out W hS
                  clear hdep hfr
                  go_simp
                  exact hK
                case s4 =>
                  intro o ho a W hS ⟨hsz, hdf, hfr, hdep⟩ K hK
                  obtain ⟨tm, df⟩ := a
                  have hdf : df = [] := hdf
                  subst hdf
                  have ho := Option.some.inj ho
                  subst ho
                  have hsz : tm.size = 132 := hsz
                  have t8 : tm.getD 8 undef = .int .i64 (j : Int) := hfr 8 (by intro j hj; omega)
                  clear hdep hfr
                  go_simp
                  exact hK
                case s5 =>
                  intro o ho a W hS ⟨hsz, hdf, hfr, hdep⟩ K hK
                  obtain ⟨tm, df⟩ := a
                  have hdf : df = [] := hdf
                  subst hdf
                  have ho := Option.some.inj ho
                  subst ho
                  have hsz : tm.size = 132 := hsz
                  have t65 : tm.getD 65 undef = .slice (some adA) nv c1 := hdep ⟨3, .data⟩ (by simp) (by rfl) (by decide) (by decide) (by decide)
                  have t66 : tm.getD 66 undef = .int .i64 (j : Int) := hdep ⟨4, .data⟩ (by simp) (by rfl) (by decide) (by decide) (by decide)
                  clear hdep hfr
                  go_simp
                  exact hK
                case s6 =>
                  intro o ho a W hS ⟨hsz, hdf, hfr, hdep⟩ K hK
                  obtain ⟨tm, df⟩ := a
                  have hdf : df = [] := hdf
                  subst hdf
                  have ho := Option.some.inj ho
                  subst ho
                  have hsz : tm.size = 132 := hsz
                  have t67 : tm.getD 67 undef = .pointer (some (adA.add j)) := hdep ⟨5, .data⟩ (by simp) (by rfl) (by decide) (by decide) (by decide)
                  obtain ⟨cz0, cz1, cz2, cz3, cz4, cz5, _⟩ := HC.out W hS
                  clear hdep hfr
                  go_simp
                  exact hK
                case s7 =>
                  intro o ho a W hS ⟨hsz, hdf, hfr, hdep⟩ K hK
                  obtain ⟨tm, df⟩ := a
                  have hdf : df = [] := hdf
                  subst hdf
                  have ho := Option.some.inj ho
                  subst ho
                  have hsz : tm.size = 132 := hsz
                  have t3 : tm.getD 3 undef = .pointer (some ⟨w.heap.size + 1, 0, none⟩) := hfr 3 (by intro j hj; omega)
                  clear hdep hfr
                  go_simp
                  exact hK
                case s8 =>
                  intro o ho a W hS ⟨hsz, hdf, hfr, hdep⟩ K hK
                  obtain ⟨tm, df⟩ := a
                  have hdf : df = [] := hdf
                  subst hdf
                  have ho := Option.some.inj ho
                  subst ho
                  have hsz : tm.size = 132 := hsz
                  have t69 : tm.getD 69 undef = .pointer (some ⟨w.heap.size + 1, 1, none⟩) := hdep ⟨7, .data⟩ (by simp) (by rfl) (by decide) (by decide) (by decide)
                  obtain ⟨cz0, cz1, cz2, cz3, cz4, cz5, _⟩ := HC.out W hS
                  clear hdep hfr
                  go_simp
                  exact hK
                case s9 =>
                  intro o ho a W hS ⟨hsz, hdf, hfr, hdep⟩ K hK
                  obtain ⟨tm, df⟩ := a
                  have hdf : df = [] := hdf
                  subst hdf
                  have ho := Option.some.inj ho
                  subst ho
                  have hsz : tm.size = 132 := hsz
                  have t8 : tm.getD 8 undef = .int .i64 (j : Int) := hfr 8 (by intro j hj; omega)
                  clear hdep hfr
                  go_simp
                  exact hK
                case s10 =>
                  intro o ho a W hS ⟨hsz, hdf, hfr, hdep⟩ K hK
                  obtain ⟨tm, df⟩ := a
                  have hdf : df = [] := hdf
                  subst hdf
                  have ho := Option.some.inj ho
                  subst ho
                  have hsz : tm.size = 132 := hsz
                  have t70 : tm.getD 70 undef = .slice (some adB) nv d1 := hdep ⟨8, .data⟩ (by simp) (by rfl) (by decide) (by decide) (by decide)
                  have t71 : tm.getD 71 undef = .int .i64 (j : Int) := hdep ⟨9, .data⟩ (by simp) (by rfl) (by decide) (by decide) (by decide)
                  clear hdep hfr
                  go_simp
                  exact hK
                case s11 =>
                  intro o ho a W hS ⟨hsz, hdf, hfr, hdep⟩ K hK
                  obtain ⟨tm, df⟩ := a
                  have hdf : df = [] := hdf
                  subst hdf
                  have ho := Option.some.inj ho
                  subst ho
                  have hsz : tm.size = 132 := hsz
                  have t72 : tm.getD 72 undef = .pointer (some (adB.add j)) := hdep ⟨10, .data⟩ (by simp) (by rfl) (by decide) (by decide) (by decide)
                  obtain ⟨cz0, cz1, cz2, cz3, cz4, cz5, _⟩ := HC.out W hS
                  clear hdep hfr
                  go_simp
                  exact hK
                case s12 =>
                  intro o ho a W hS ⟨hsz, hdf, hfr, hdep⟩ K hK
                  obtain ⟨tm, df⟩ := a
                  have hdf : df = [] := hdf
                  subst hdf
                  have ho := Option.some.inj ho
                  subst ho
                  have hsz : tm.size = 132 := hsz
                  have t2 : tm.getD 2 undef = .pointer (some ⟨w.heap.size, 0, none⟩) := hfr 2 (by intro j hj; omega)
                  clear hdep hfr
                  go_simp
                  exact hK
                case s13 =>
                  intro o ho a W hS ⟨hsz, hdf, hfr, hdep⟩ K hK
                  obtain ⟨tm, df⟩ := a
                  have hdf : df = [] := hdf
                  subst hdf
                  have ho := Option.some.inj ho
                  subst ho
                  have hsz : tm.size = 132 := hsz
                  have t74 : tm.getD 74 undef = .pointer (some ⟨w.heap.size, 0, none⟩) := hdep ⟨12, .data⟩ (by simp) (by rfl) (by decide) (by decide) (by decide)
                  obtain ⟨cz0, cz1, cz2, cz3, cz4, cz5, _⟩ := HC.out W hS
                  clear hdep hfr
                  go_simp
                  exact hK
                case s14 =>
                  intro o ho a W hS ⟨hsz, hdf, hfr, hdep⟩ K hK
                  obtain ⟨tm, df⟩ := a
                  have hdf : df = [] := hdf
                  subst hdf
                  have ho := Option.some.inj ho
                  subst ho
                  have hsz : tm.size = 132 := hsz
                  have t73 : tm.getD 73 undef = .int .u64 (xb : Int) := hdep ⟨11, .data⟩ (by simp) (by rfl) (by decide) (by decide) (by decide)
                  have t75 : tm.getD 75 undef = .int .i64 (na : Int) := hdep ⟨13, .data⟩ (by simp) (by rfl) (by decide) (by decide) (by decide)
                  clear hdep hfr
                  go_simp
                  exact hK
                case s15 =>
                  intro o ho a W hS ⟨hsz, hdf, hfr, hdep⟩ K hK
                  obtain ⟨tm, df⟩ := a
                  have hdf : df = [] := hdf
                  subst hdf
                  have ho := Option.some.inj ho
                  subst ho
                  have hsz : tm.size = 132 := hsz
                  have t68 : tm.getD 68 undef = .int .u64 (xa : Int) := hdep ⟨6, .data⟩ (by simp) (by rfl) (by decide) (by decide) (by decide)
                  have t76 : tm.getD 76 undef = .int .u64 (xs : Int) := hdep ⟨14, .data⟩ (by simp) (by rfl) (by decide) (by decide) (by decide)
                  clear hdep hfr
                  go_simp
                  exact hK
                case s18 =>
                  intro o ho a W hS ⟨hsz, hdf, hfr, hdep⟩ K hK
                  obtain ⟨tm, df⟩ := a
                  have hdf : df = [] := hdf
                  subst hdf
                  have ho := Option.some.inj ho
                  subst ho
                  have hsz : tm.size = 132 := hsz
                  have t7 : tm.getD 7 undef = .pointer (some ⟨P, 0, none⟩) := hfr 7 (by intro j hj; omega)
                  clear hdep hfr
                  go_simp
                  exact hK
              case hB =>
                intro o ho a W hS ⟨hsz, hdf, hfr, hdep⟩ K hK
                obtain ⟨tm, df⟩ := a
                have hdf : df = [] := hdf
                subst hdf
                have ho := Option.some.inj ho
                subst ho
                have hsz : tm.size = 132 := hsz
                have t77 : tm.getD 77 undef = .int .u64 (xo : Int) := hdep ⟨15, .data⟩ (by simp) (by rfl) (by decide) (by decide) (by decide)
                have w77 : tm[77]'(by omega) = .int .u64 (xo : Int) := getq2 t77 (by omega)
                have hle : P + 1 ≤ W.heap.size := Nat.le_trans hsz0 hS.1.size
                clear hdep hfr
                go_simp
                exact hK _ (W.alloc (.cells #[.int .u64 (xo : Int)] 31)) ⟨hS.1.alloc hle _, own_keep1 hS.2 (fun g hg => Below.heap_alloc W _ g (hS.2.lt g hg).2), W.heap.size, rfl, by rw [Lib.cell_of_heap (heap_alloc_new W _)]; rfl⟩
              case hA =>
                intro o ho a W hS ⟨hsz, hdf, hfr, hdep⟩ K hK
                obtain ⟨tm, df⟩ := a
                have hdf : df = [] := hdf
                subst hdf
                have ho := Option.some.inj ho
                subst ho
                have hsz : tm.size = 132 := hsz
                have t63 : tm.getD 63 undef = VV := hdep ⟨1, .data⟩ (by simp) (by rfl) (by decide) (by decide) (by decide)
                obtain ⟨hb1, hown, g, hv, hcg⟩ := hS
                have hle : P + 1 ≤ W.heap.size := Nat.le_trans hsz0 hb1.size
                have t78 : tm.getD 78 undef = .slice (some ⟨g, 0, none⟩) 1 1 := hv
                clear hdep hfr
                refine step_appW j xo W (by rfl) (.tmp 63) (.tmp 78) (by rfl) (P + 1) g VV t63 hown t78 hcg (by omega) hle ?_
                intro g3 c3 w4 ho3 hg3 _ _
                exact hK _ _ ⟨hb1.grown hg3 hle (own_lo hown (Nat.le_refl _)), some ⟨g3, 0, none⟩, c3, rfl, ho3⟩
              case hL =>
                intro o ho a W hS ⟨hsz, hdf, hfr, hdep⟩ K hK
                obtain ⟨tm, df⟩ := a
                have hdf : df = [] := hdf
                subst hdf
                have ho := Option.some.inj ho
                subst ho
                have hsz : tm.size = 132 := hsz
                have t80 : tm.getD 80 undef = .pointer (some ⟨P, 1, none⟩) := hdep ⟨18, .data⟩ (by simp) (by rfl) (by decide) (by decide) (by decide)
                obtain ⟨hb1, A3, c3, hv, hown⟩ := hS
                have t79 : tm.getD 79 undef = .slice A3 (j + 1) c3 := hv
                obtain ⟨_, _, _, _, _, cz5, cz6⟩ := HC.out W hb1
                clear hdep hfr
                go_simp
                exact hK undef _ ⟨W, A3, c3, rfl, hb1, hown⟩
              case fin =>
                intro vs W _ hS
                obtain ⟨W0, A3, c3, rfl, hb0, hown⟩ := hS
                have HT6 := Lib.hid (HT.out.keep hb0)
                have HJ : Hid (us ((List.range j).map (unionV a b) ++ [xo]) = us ((List.range (j + 1)).map (unionV a b))) := Lib.hid (by rw [List.range_succ, List.map_append, ← HUJ.out]; rfl)
                simp only [show List.range 19 = [0, 1, 2, 3, 4, 5, 6, 7, 8, 9, 10, 11, 12, 13, 14, 15, 16, 17, 18] from rfl, List.map, fillT]
                generalize vs.getD 0 undef = y0
                generalize vs.getD 1 undef = y1
                generalize vs.getD 2 undef = y2
                generalize vs.getD 3 undef = y3
                generalize vs.getD 4 undef = y4
                generalize vs.getD 5 undef = y5
                generalize vs.getD 6 undef = y6
                generalize vs.getD 7 undef = y7
                generalize vs.getD 8 undef = y8
                generalize vs.getD 9 undef = y9
                generalize vs.getD 10 undef = y10
                generalize vs.getD 11 undef = y11
                generalize vs.getD 12 undef = y12
                generalize vs.getD 13 undef = y13
                generalize vs.getD 14 undef = y14
                generalize vs.getD 15 undef = y15
                generalize vs.getD 16 undef = y16
                generalize vs.getD 17 undef = y17
                generalize vs.getD 18 undef = y18
                go_simp
                go_wp2
                go_roundw
                case rel => exact ⟨j + 1, _, by omega, by go_num, Lib.hid (Tu.put1 HT6.out _), Lib.hid (by rw [← HJ.out]; exact own_keep1 hown (fun g hg => Below.heap_setCell W0 _ _ g (by have := (hown.lt g hg).1; show g ≠ P; omega)))⟩
                case measure => first | (simp [intOf]; done) | (simp [intOf]; omega)
            · obtain rfl : nv = j := by omega
              clear hlt
              go_wp2
              clear z1
              go_loopw [9, 10, 11, 12] (fun i _ _ _ wx => ∃ (q : Nat) (RV : Value), q ≤ nr ∧ i = .int .i64 q ∧ Hid (Tu w wx a.n b.n (.slice A1 nv c1) (.slice A2 nr c2) (.slice B1 nv d1) (.slice B2 nr d2) P K VV RV) ∧ Hid (wx.ownsRow (P + 1) 31 1 VV nv (us ((List.range nv).map (unionV a b)))) ∧ Hid (RowsO wx (P + 1) K RV q (unionR a b))) (fun i _ _ _ _ => nr - (intOf i).toNat)
              case atStart => exact ⟨0, .slice none 0 0, Nat.zero_le _, rfl, HT, HO, Lib.hid ⟨[], World.ownsRow_nil _ _ _ _, fun j hj => absurd hj (by omega)⟩⟩
              case round =>
                obtain ⟨q, RV, hq, rfl, HTa, HOa, HRa⟩ := hrel
                have b2 := HTa.out.boxA.c2
                by_cases hlt : q < nr
                · obtain ⟨ad, Aj, cj, rfl, hb, hc0, hrj, _⟩ := HRA.out.at_ hlt
                  obtain ⟨bd, Bj, ej, rfl, hbb, hd0, hsj, _⟩ := HRB.out.at_ hlt
                  rw [HLA.out q hlt] at hc0 hrj
                  rw [HLB.out q hlt] at hd0 hsj
                  have HRJ := Lib.hid hrj
                  have HSJ := Lib.hid hsj
                  have HC0 : Hid (∀ w4, Below w.heap.size w w4 → w4.cell? (ad.add q) = some (.slice Aj na cj)) := Lib.hid (fun w4 hb4 => (hb4.cell (p := ad.add q) (by rw [block_of_add]; exact hb)).trans hc0)
                  have HD0 : Hid (∀ w4, Below w.heap.size w w4 → w4.cell? (bd.add q) = some (.slice Bj nb ej)) := Lib.hid (fun w4 hb4 => (hb4.cell (p := bd.add q) (by rw [block_of_add]; exact hbb)).trans hd0)
                  have HEA : Hid ((List.range na).map (fun x => (a.rel.getD q []).getD x 0) = a.rel.getD q []) := Lib.hid (by
                    have h := map_getD (fun x : Nat => x) (a.rel.getD q []) 0
                    rw [HLA.out q hlt] at h
                    simpa using h)
                  have HEB : Hid ((List.range nb).map (fun y => (b.rel.getD q []).getD y 0 * 2 ^ na) = shR (b.rel.getD q []) na) := Lib.hid (by
                    have h := map_getD (fun x : Nat => x * 2 ^ na) (b.rel.getD q []) 0
                    rw [HLB.out q hlt] at h
                    exact h)
                  clear hb hbb hc0 hd0 hrj hsj
                  go_wp2
                  clear b2
                  generalize wr = w5 at *
                  have hs5 : P + 1 ≤ w5.heap.size := HTa.out.size
                  go_loopw [10, 11] (fun v i wy => ∃ (x : Nat) (vv : Value), x ≤ na ∧ i = .int .i64 x ∧ vv = v ∧ Hid (wy.ownsRow w5.heap.size 31 1 vv x (us ((List.range x).map (fun x => (a.rel.getD q []).getD x 0)))) ∧ Hid (Below w5.heap.size w5 wy)) (fun _ i _ => na - (intOf i).toNat)
                  case atStart => exact ⟨0, .slice none 0 0, Nat.zero_le _, rfl, rfl, Lib.hid (World.ownsRow_nil _ _ _ _), Lib.hid (Below.refl _ _)⟩
                  case round =>
                    obtain ⟨x, vv, hx, rfl, rfl, HOj, HBj⟩ := hrel
                    have HTx := Lib.hid (HTa.out.keep (HBj.out.mono hs5))
                    have z4 := HMVA.out _ _ _ _ HTx.out.boxA
                    by_cases hlx : x < na
                    · have HCS : Hid (∀ w4, Below w5.heap.size w5 w4 → w4.cell? ⟨w.heap.size, 2, none⟩ = some (.slice (some ad) nr c2) ∧ w4.cell? (ad.add q) = some (.slice Aj na cj) ∧ ∃ aj, Aj = some aj ∧ w4.cell? (aj.add x) = some (.int .u64 (((a.rel.getD q []).getD x 0 : Nat) : Int))) := Lib.hid (fun w4 hb4 => by
                        have hbw : Below w.heap.size w w4 := (HTa.out.keep (hb4.mono hs5)).below
                        obtain ⟨aj2, e3, _, h3⟩ := (HRJ.out.below hbw).word_k hlx
                        exact ⟨(HTa.out.keep (hb4.mono hs5)).boxA.c2, HC0.out w4 hbw, aj2, e3, h3⟩)
                      obtain ⟨aj, rfl, _, _⟩ := (HRJ.out.below HTx.out.below).word_k hlx
                      have HJ : Hid (us ((List.range x).map (fun x => (a.rel.getD q []).getD x 0) ++ [(a.rel.getD q []).getD x 0]) = us ((List.range (x + 1)).map (fun x => (a.rel.getD q []).getD x 0))) := Lib.hid (by rw [List.range_succ, List.map_append]; rfl)
                      generalize (a.rel.getD q []).getD x 0 = z at *
                      have HCS2 : Hid (∀ w4, Below w5.heap.size w5 w4 → w4.cell? ⟨w.heap.size, 2, none⟩ = some (.slice (some ad) nr c2) ∧ w4.cell? (ad.add q) = some (.slice (some aj) na cj) ∧ w4.cell? (aj.add x) = some (.int .u64 (z : Int))) := Lib.hid (fun w4 hb4 => by
                        obtain ⟨h1, h2, aj2, e3, h3⟩ := HCS.out w4 hb4
                        injection e3 with e3
                        subst e3
                        exact ⟨h1, h2, h3⟩)
                      clear HCS
                      have hszr := HBj.out.size
                      obtain ⟨q1, q2, q3⟩ := HCS2.out wr HBj.out
                      have hown := HOj.out
                      clear HCS2
                      go_wp2_with (at_builtin; refine wpList_append_own _ rfl _ _ 22 rfl w5.heap.size 31 i0 (.int .u64 0) 1 8 Tryd.underlying22 hi0 hz0 hz1' hz2' rfl (by decide) _ _ _ rfl (hown.alloc _) ⟨wr.heap.size, 0, none⟩ 1 1 [.int .u64 (z : Int)] rfl rfl ?c1 ?c2 ?c3 ?c4 ?c5 ?_)
                      case c1 =>
                        intro j u hj
                        match j, hj with
                        | 0, hj => simp at hj; subst hj; simp [Addr.add]
                      case c2 => intro u hu; simp at hu; subst hu; rfl
                      case c3 => unfold maxLen; omega
                      case c4 => omega
                      case c5 => simp; omega
                      · intro v' w6 hown' hgrow _
                        have hb1 : Below w5.heap.size w5 w6 := (HBj.out.alloc hszr _).grown hgrow (by simp; omega) (fun j hj => by have := (hown.lt j hj).1; omega)
                        have HO6 : Hid (w6.ownsRow w5.heap.size 31 1 v' (x + 1) (us ((List.range (x + 1)).map (fun x => (a.rel.getD q []).getD x 0)))) := Lib.hid (by rw [← HJ.out, us_app]; exact hown')
                        have HB6 := Lib.hid hb1
                        clear hgrow hown hown' hb1 z4 q1 q2 q3
                        go_wp2
                        go_roundw
                        case rel => exact ⟨x + 1, v', by omega, by go_num, rfl, HO6, HB6⟩
                        case measure => first | (simp [intOf]; done) | (simp [intOf]; omega)
                    · obtain rfl : na = x := by omega
                      clear hlx
                      go_wp2
                      clear z4
                      have HOA : Hid (wr.ownsRow w5.heap.size 31 1 vv na (us (a.rel.getD q []))) := Lib.hid (by rw [← HEA.out]; exact HOj.out)
                      go_loopw [10, 12] (fun v i wy => ∃ (y : Nat) (vu : Value), y ≤ nb ∧ i = .int .i64 y ∧ vu = v ∧ Hid (wy.ownsRow w5.heap.size 31 1 vu (na + y) (us (a.rel.getD q [] ++ (List.range y).map (fun y => (b.rel.getD q []).getD y 0 * 2 ^ na)))) ∧ Hid (Below w5.heap.size w5 wy)) (fun _ i _ => nb - (intOf i).toNat)
                      case atStart => exact ⟨0, vv, Nat.zero_le _, rfl, rfl, Lib.hid (by simpa using HOA.out), HBj⟩
                      case round =>
                        obtain ⟨y, vu, hy, rfl, rfl, HOk, HBk⟩ := hrel
                        have HTy := Lib.hid (HTa.out.keep (HBk.out.mono hs5))
                        have z5 := HMVB.out _ _ _ _ HTy.out.boxB
                        by_cases hly : y < nb
                        · have HCS : Hid (∀ w4, Below w5.heap.size w5 w4 → w4.cell? ⟨w.heap.size + 1, 2, none⟩ = some (.slice (some bd) nr d2) ∧ w4.cell? (bd.add q) = some (.slice Bj nb ej) ∧ w4.cell? ⟨w.heap.size, 0, none⟩ = some (.int .i64 (na : Int)) ∧ ∃ bj, Bj = some bj ∧ w4.cell? (bj.add y) = some (.int .u64 (((b.rel.getD q []).getD y 0 : Nat) : Int))) := Lib.hid (fun w4 hb4 => by
                            have hbk := HTa.out.keep (hb4.mono hs5)
                            obtain ⟨aj2, e3, _, h3⟩ := (HSJ.out.below hbk.below).word_k hly
                            exact ⟨hbk.boxB.c2, HD0.out w4 hbk.below, HMVA.out _ _ _ _ hbk.boxA, aj2, e3, h3⟩)
                          obtain ⟨bj, rfl, _, _⟩ := (HSJ.out.below HTy.out.below).word_k hly
                          have hsf := shl_fit (HXB.out q y) (show na + nb ≤ 64 by have := HKK.out; omega)
                          have HJ : Hid (us ((a.rel.getD q [] ++ (List.range y).map (fun y => (b.rel.getD q []).getD y 0 * 2 ^ na)) ++ [(b.rel.getD q []).getD y 0 * 2 ^ na]) = us (a.rel.getD q [] ++ (List.range (y + 1)).map (fun y => (b.rel.getD q []).getD y 0 * 2 ^ na))) := Lib.hid (by rw [List.range_succ, List.map_append, List.append_assoc]; rfl)
                          have hsh := hsf.2
                          clear hsf
                          generalize (b.rel.getD q []).getD y 0 = z at *
                          generalize z * 2 ^ na = zs at *
                          have HCS2 : Hid (∀ w4, Below w5.heap.size w5 w4 → w4.cell? ⟨w.heap.size + 1, 2, none⟩ = some (.slice (some bd) nr d2) ∧ w4.cell? (bd.add q) = some (.slice (some bj) nb ej) ∧ w4.cell? ⟨w.heap.size, 0, none⟩ = some (.int .i64 (na : Int)) ∧ w4.cell? (bj.add y) = some (.int .u64 (z : Int))) := Lib.hid (fun w4 hb4 => by
                            obtain ⟨h1, h2, h3, aj2, e3, h4⟩ := HCS.out w4 hb4
                            injection e3 with e3
                            subst e3
                            exact ⟨h1, h2, h3, h4⟩)
                          clear HCS
                          have hszr := HBk.out.size
                          obtain ⟨q1, q2, q3, q4⟩ := HCS2.out wr HBk.out
                          have hO1 : Hid (∀ o, (wr.drew.alloc o).ownsRow w5.heap.size 31 1 vu (na + y) (us (a.rel.getD q [] ++ (List.range y).map (fun y => (b.rel.getD q []).getD y 0 * 2 ^ na)))) := Lib.hid (fun o => own_keep1 HOk.out (fun g hg => Below.heap_alloc wr.drew o g (HOk.out.lt g hg).2))
                          have hO2 : Hid (∀ o, w5.heap.size ≤ (wr.drew.alloc o).heap.size) := Lib.hid (fun o => by have h9 : (wr.drew.alloc o).heap.size = wr.heap.size + 1 := (by simp); omega)
                          have HKA : Hid (∀ o, (wr.alloc o).drew.cell? ⟨w.heap.size + 1, 2, none⟩ = some (.slice (some bd) nr d2) ∧ (wr.alloc o).drew.cell? (bd.add q) = some (.slice (some bj) nb ej) ∧ (wr.alloc o).drew.cell? ⟨w.heap.size, 0, none⟩ = some (.int .i64 (na : Int)) ∧ (wr.alloc o).drew.cell? (bj.add y) = some (.int .u64 (z : Int))) := Lib.hid (fun o => HCS2.out _ ((HBk.out.alloc hszr o).drew))
                          have HBA : Hid (∀ o w4, (wr.drew.alloc o).grownBy w4 vu.ownBlock → Below w5.heap.size w5 w4) := Lib.hid (fun o w4 hg => ((HBk.out.drew).alloc hszr o).grown hg (hO2.out o) (own_lo HOk.out (Nat.le_refl _)))
                          have hk64 : na + y ≤ 64 := by have := HKK.out; omega
                          go_wp2
                          clear z5
                          go_region_held3 (fun W => W.cell? ⟨w.heap.size + 1, 2, none⟩ = some (.slice (some bd) nr d2) ∧ W.cell? (bd.add q) = some (.slice (some bj) nb ej) ∧ W.cell? ⟨w.heap.size, 0, none⟩ = some (.int .i64 (na : Int)) ∧ W.cell? (bj.add y) = some (.int .u64 (z : Int))) (first | assumption | (refine ⟨?_, ?_, ?_, ?_⟩ <;> assumption) | exact HKA.out _)
                            ((refine step_appW (na + y) zs _ (by rfl) _ _ (by rfl) w5.heap.size _ _ (by rfl) (hO1.out _) (by rfl) (by go_simp) (by omega) (hO2.out _) ?_; intro g3 c3 w4 ho3 hg3 hr3 hl3; have HB4 := Lib.hid (HBA.out _ _ hg3); have hS4 := HCS2.out _ HB4.out; have HO4 := Lib.hid ho3; clear ho3 hg3 hr3))
                          all_goals
                            clear q1 q2 q3 q4 hS4
                            go_wp2
                            go_roundw
                            case rel => exact ⟨y + 1, _, by omega, by go_num, rfl, Lib.hid (by rw [← HJ.out]; exact HO4.out), HB4⟩
                            case measure => first | (simp [intOf]; done) | (simp [intOf]; omega)
                        · obtain rfl : nb = y := by omega
                          have HOF : Hid (wr.ownsRow w5.heap.size 31 1 vu K (us (unionR a b q))) := Lib.hid (by rw [HUR.out, ← HEB.out, ← HKK.out]; exact HOk.out)
                          obtain ⟨Av, cv, rfl⟩ := own_sl HOF.out
                          have HT6 := HTy
                          have HV6 := Lib.hid (own_keep1 HOa.out (fun g hg => HBk.out.block g (HOa.out.lt g hg).2))
                          have HR6 := Lib.hid (HRa.out.below HBk.out)
                          have HRr := Lib.hid (own_base HOF.out hs5)
                          have hs6 : P + 1 ≤ wr.heap.size := HT6.out.size
                          have hlP := HT6.out.lt
                          have p2 := HT6.out.part.c2
                          have f2 := HT6.out.part.free 2
                          clear hly HOk HOF HBk HBj HOj HOA HTa HOa HRa HTx HTy
                          obtain ⟨vs, hvs1, hvs2⟩ := HR6.out
                          have HVS1 := Lib.hid hvs1
                          have HVS2 := Lib.hid hvs2
                          clear hvs1 hvs2
                          obtain ⟨iv0, hiv, hzv0, hzv1, hzv2⟩ := info_parts Tryd.infoV
                          go_wp2_with (at_builtin; refine wpList_append_own _ rfl _ _ 23 rfl (P + 1) 22 iv0 (.slice none 0 0) 1 24 Tryd.underlying23 hiv hzv0 hzv1 hzv2 rfl (by decide) _ _ _ rfl (HVS1.out.alloc _) ⟨wr.heap.size, 0, none⟩ 1 1 [.slice Av K cv] rfl rfl ?c1 ?c2 ?c3 ?c4 ?c5 ?_)
                          case c1 =>
                            intro j u hj
                            match j, hj with
                            | 0, hj => simp at hj; subst hj; simp [Addr.add]
                          case c2 => intro u hu; simp at hu; subst hu; rfl
                          case c3 => unfold maxLen; omega
                          case c4 => omega
                          case c5 => simp; omega
                          · intro v' w6 hown' hgrow _
                            obtain ⟨Ag, cg, rfl⟩ := own_sl hown'
                            have HG6 := Lib.hid (RowsO.snoc HVS1.out HVS2.out HRr.out hgrow hown')
                            have hb6 : Below (P + 1) wr w6 := ((Below.refl _ wr).alloc hs6 _).grown hgrow (by simp; omega) (own_lo HVS1.out (Nat.le_refl _))
                            have HT7 := Lib.hid (HT6.out.keep hb6)
                            have HV7 : Hid (w6.ownsRow (P + 1) 31 1 VV nv (us ((List.range nv).map (unionV a b)))) := Lib.hid (own_keep1 HV6.out (fun g hg => (hgrow.block g (Nat.lt_of_lt_of_le (HV6.out.lt g hg).2 (by simp)) (fun e => own_apart HV6.out HVS1.out (by decide) hg e.symm)).trans (Below.heap_alloc wr _ g (HV6.out.lt g hg).2)))
                            have p3 := HT7.out.part.c2
                            have f3 := HT7.out.part.free 2
                            clear hgrow hown' hb6 p2 f2 z5
                            go_wp2
                            go_roundw
                            case rel => exact ⟨q + 1, _, by omega, by go_num, Lib.hid (Tu.put2 HT7.out _), Lib.hid (own_keep1 HV7.out (fun g hg => Below.heap_setCell w6 _ _ g (by have := (HV7.out.lt g hg).1; show g ≠ P; omega))), Lib.hid (HG6.out.set (by omega))⟩
                            case measure => first | (simp [intOf]; done) | (simp [intOf]; omega)
                · obtain rfl : nr = q := by omega
                  clear hlt
                  have q0 := HTa.out.part.c0
                  have q1 := HTa.out.part.c1
                  have q2 := HTa.out.part.c2
                  have y0 := HTa.out.res.c0
                  have y1 := HTa.out.res.c1
                  have y2 := HTa.out.res.c2
                  have f0 := HTa.out.res.free 0
                  have f1 := HTa.out.res.free 1
                  have f2 := HTa.out.res.free 2
                  obtain ⟨Av, cv, rfl⟩ := own_sl HOa.out
                  obtain ⟨Ar, cr, rfl⟩ : ∃ A c, RV = .slice A nr c := by
                    obtain ⟨vs, h1, _⟩ := HRa.out
                    exact own_sl h1
                  go_wp2
                  have HZ3 := Lib.hid (res_fin HTa.out.res HTa.out.below (K : Int) (.slice Av nv cv) (.slice Ar nr cr))
                  clear q0 q1 q2 y0 y1 y2 f0 f1 f2 b2
                  generalize (((wr.setCell ⟨w.heap.size + 1 + 1, 0, none⟩ (.int .i64 (K : Int))).setCell ⟨w.heap.size + 1 + 1, 1, none⟩ (.slice Av nv cv)).setCell ⟨w.heap.size + 1 + 1, 2, none⟩ (.slice Ar nr cr)) = w7 at *
                  (try simp only [Exit.inBlock, Exit.then])
                  refine bodyPost_ret (ret_cellT rfl _ _ (w.heap.size + 1 + 1) _ _ _ _ rfl HZ3.out.1 Tryd.underlying25 rfl (by kernel_rfl)) rfl ?_
                  have hlP := HTa.out.lt
                  refine ⟨_, by rw [HE.out.1]; rfl, ?_, HZ3.out.2.1⟩
                  rw [HEM.out, HSUM.out]
                  intro W' _ hag
                  have hvv : w7.ownsRow (P + 1) 31 1 (.slice Av nv cv) nv (us ((List.range nv).map (unionV a b))) := own_keep1 HOa.out (fun g hg => HZ3.out.2.2.block g (HOa.out.lt g hg).2 (by have := (HOa.out.lt g hg).1; omega))
                  have hrr : RowsO w7 (P + 1) K (.slice Ar nr cr) nr (unionR a b) := by
                    obtain ⟨vs, h1, h2⟩ := HRa.out
                    refine ⟨vs, own_keep1 h1 (fun g hg => HZ3.out.2.2.block g (h1.lt g hg).2 (by have := (h1.lt g hg).1; omega)), fun j hj => ?_⟩
                    obtain ⟨A, c, e, h3⟩ := h2 j hj
                    exact ⟨A, c, e, own_keep1 h3 (fun g hg => HZ3.out.2.2.block g (h3.lt g hg).2 (by have := (h3.lt g hg).1; omega))⟩
                  have hvv := own_keep1 hvv (W' := W') (fun g hg => hag g (by have := (hvv.lt g hg).1; omega) (hvv.lt g hg).2)
                  have hrr : RowsO W' (P + 1) K (.slice Ar nr cr) nr (unionR a b) := by
                    obtain ⟨vs, h1, h2⟩ := hrr
                    refine ⟨vs, own_keep1 h1 (fun g hg => hag g (by have := (h1.lt g hg).1; omega) (h1.lt g hg).2), fun j hj => ?_⟩
                    obtain ⟨A, c, e, h3⟩ := h2 j hj
                    exact ⟨A, c, e, own_keep1 h3 (fun g hg => hag g (by have := (h3.lt g hg).1; omega) (h3.lt g hg).2)⟩
                  have hlen : ∀ j, j < nr → (unionR a b j).length = K := fun j hj => by
                    rw [HUR.out, List.length_append, HLA.out j hj, ← HKK.out]
                    show na + (shR (b.rel.getD j []) na).length = na + nb
                    unfold shR
                    rw [List.length_map, HLB.out j hj]
                  obtain ⟨Ar2, cr2, e2, hur⟩ := hrr.usr hlen (by unfold maxLen; omega)
                  injection e2 with e2 _ e3
                  subst e2 e3
                  refine MoR.unionO hK64 hvv hur (fun j => ?_) (fun j hj x hx => ?_) hnr8
                  · rw [HUV.out]
                    exact Nat.or_lt_two_pow (n := 64) (HWA.out j) (shl_fit (HWB.out j) (by have := HKK.out; omega)).1
                  · rw [HUR.out] at hx
                    rcases List.mem_append.1 hx with hx | hx
                    · exact HMA.out.wrel _ (getD_mem' (by have := HQR.out; omega)) x hx
                    · unfold shR at hx
                      obtain ⟨z, hz, rfl⟩ := List.mem_map.1 hx
                      have hz2 := HKB.out.rel (b.rel.getD j []) (getD_mem' (by have := HQR.out; have := HLR.out; omega)) z hz
                      exact (shl_fit hz2 (by have := HKK.out; omega)).1
    · have HE := Lib.hid (unionE_b hza hzb)
      have hz1 : (chkM b != 0) = true := by simpa using hzb
      clear hza
      generalize chkM b = cm at *
      clear hzb
      generalize hq1 : a.val.length = va at *
      generalize hq2 : a.rel.length = ra at *
      generalize hq3 : b.val.length = vb at *
      generalize hq4 : b.rel.length = rb at *
      clear hq1 hq2 hq3 hq4
      go_enter Tryd.func24, Tryd.ntmps24
      go_wp2_with fail
      refine (HCA.out _ HR.out.below).mono ?_
      rintro e w2 ⟨rfl, hb2⟩
      have HR2 := Lib.hid (HR.out.keep hb2)
      clear hb2
      have g0 := HR2.out.boxB.c0
      have g1 := HR2.out.boxB.c1
      have g2 := HR2.out.boxB.c2
      go_wp2_with fail
      refine (HCB.out _ HR2.out.below).mono ?_
      rintro e w3 ⟨rfl, hb3⟩
      have HRX := Lib.hid (HR2.out.keep hb3)
      clear hb3 g0 g1 g2
      have y0 := HRX.out.res.c0
      have y1 := HRX.out.res.c1
      have y2 := HRX.out.res.c2
      have f0 := HRX.out.res.free 0
      have f1 := HRX.out.res.free 1
      have f2 := HRX.out.res.free 2
      go_wp2
      have HZ3 := Lib.hid (res_fin HRX.out.res HRX.out.below 0 (.slice none 0 0) (.slice none 0 0))
      clear y0 y1 y2 f0 f1 f2
      generalize (((w3.setCell ⟨w.heap.size + 1 + 1, 0, none⟩ (.int .i64 0)).setCell ⟨w.heap.size + 1 + 1, 1, none⟩ (.slice none 0 0)).setCell ⟨w.heap.size + 1 + 1, 2, none⟩ (.slice none 0 0)) = w7 at *
      (try simp only [Exit.inBlock, Exit.then])
      refine bodyPost_ret (ret_cellT rfl _ _ (w.heap.size + 1 + 1) _ _ _ _ rfl HZ3.out.1 Tryd.underlying25 rfl (by kernel_rfl)) rfl ?_
      exact ⟨_, by rw [HE.out.1]; rfl, by rw [HE.out.2]; exact MoF.zero _ _, HZ3.out.2.1⟩
  · have HE := Lib.hid (unionE_a (b := b) hza)
    have hz1 : (chkM a != 0) = true := by simpa using hza
    generalize chkM a = cm at *
    clear hza
    generalize hq1 : a.val.length = va at *
    generalize hq2 : a.rel.length = ra at *
    generalize hq3 : b.val.length = vb at *
    generalize hq4 : b.rel.length = rb at *
    clear hq1 hq2 hq3 hq4
    go_enter Tryd.func24, Tryd.ntmps24
    go_wp2_with fail
    refine (HCA.out _ HR.out.below).mono ?_
    rintro e w2 ⟨rfl, hb2⟩
    have HRX := Lib.hid (HR.out.keep hb2)
    clear hb2
    have y0 := HRX.out.res.c0
    have y1 := HRX.out.res.c1
    have y2 := HRX.out.res.c2
    have f0 := HRX.out.res.free 0
    have f1 := HRX.out.res.free 1
    have f2 := HRX.out.res.free 2
    go_wp2
    have HZ3 := Lib.hid (res_fin HRX.out.res HRX.out.below 0 (.slice none 0 0) (.slice none 0 0))
    clear y0 y1 y2 f0 f1 f2
    generalize (((w2.setCell ⟨w.heap.size + 1 + 1, 0, none⟩ (.int .i64 0)).setCell ⟨w.heap.size + 1 + 1, 1, none⟩ (.slice none 0 0)).setCell ⟨w.heap.size + 1 + 1, 2, none⟩ (.slice none 0 0)) = w7 at *
    (try simp only [Exit.inBlock, Exit.then])
    refine bodyPost_ret (ret_cellT rfl _ _ (w.heap.size + 1 + 1) _ _ _ _ rfl HZ3.out.1 Tryd.underlying25 rfl (by kernel_rfl)) rfl ?_
    exact ⟨_, by rw [HE.out.1]; rfl, by rw [HE.out.2]; exact MoF.zero _ _, HZ3.out.2.1⟩
end Go.Proofs.YtofclgapgjcflaaDoor
