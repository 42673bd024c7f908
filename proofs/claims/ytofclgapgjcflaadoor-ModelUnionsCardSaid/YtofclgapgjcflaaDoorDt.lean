/- Layer 13: the disjoint union, by the program. -/
import Derived.Test.YtofclgapgjcflaaDoorDs
namespace Go.Proofs.YtofclgapgjcflaaDoor
open Go.RowKit Go.Proofs.Ws
set_option maxRecDepth 100000
theorem three_at (w : World) (o1 o2 o3 : Array Value) (t1 t2 t3 : TypeId) :
    ((((w.alloc (.cells o1 t1)).alloc (.cells o2 t2)).alloc (.cells o3 t3)).drew.heap[w.heap.size]? = some (.cells o1 t1 (0, 0))) ∧
    ((((w.alloc (.cells o1 t1)).alloc (.cells o2 t2)).alloc (.cells o3 t3)).drew.heap[w.heap.size + 1]? = some (.cells o2 t2 (0, 0))) ∧
    ((((w.alloc (.cells o1 t1)).alloc (.cells o2 t2)).alloc (.cells o3 t3)).drew.heap[w.heap.size + 1 + 1]? = some (.cells o3 t3 (0, 0))) ∧
    Below w.heap.size w (((w.alloc (.cells o1 t1)).alloc (.cells o2 t2)).alloc (.cells o3 t3)).drew := by
  have sz : ∀ (W : World) (o : Obj), (W.alloc o).heap.size = W.heap.size + 1 := fun W o => by simp
  have new : ∀ (W : World) (o : Array Value) (t : TypeId) (k : Nat), k = W.heap.size → (W.alloc (.cells o t)).heap[k]? = some (.cells o t (0, 0)) := fun W o t k hk => by subst hk; exact heap_alloc_new W (.cells o t)
  have keep : ∀ (W : World) (o : Obj) (k : Nat) (x : Obj), W.heap[k]? = some x → (W.alloc o).heap[k]? = some x := fun W o k x h => (Below.heap_alloc W o k (Array.getElem?_eq_some_iff.1 h).1).trans h
  refine ⟨?_, ?_, ?_, ?_⟩
  · exact keep _ _ _ _ (keep _ _ _ _ (new _ _ _ _ rfl))
  · exact keep _ _ _ _ (new _ _ _ _ (by simp only [sz]))
  · exact new _ _ _ _ (by simp only [sz])
  · exact (((((Below.refl _ w).alloc (Nat.le_refl _) _).alloc (by simp) _).alloc (by simp; omega) _)).drew
theorem MoR.union {W : World} {GV GR K nv nr : Nat} {V : Nat → Nat} {R : Nat → List Nat} {vs : List Value} (hK : K ≤ 64) (hv : HoldsU W GV ((List.range nv).map V)) (_ : HoldsV W GR vs) (hr : UsR W W.heap.size (some ⟨GR, 0, none⟩) nr ((List.range nr).map R))
    (hw : ∀ j, V j < 18446744073709551616) (hx : ∀ j, j < nr → ∀ x ∈ R j, x < 18446744073709551616) (hn : nv ≤ 8 ∧ nr ≤ 4) :
    MoR W W.heap.size (.agg #[.int .i64 (K : Int), .slice (some ⟨GV, 0, none⟩) nv nv, .slice (some ⟨GR, 0, none⟩) nr nr]) ⟨(K : Int), (List.range nv).map V, (List.range nr).map R⟩ := by
  have lv : ((List.range nv).map V).length = nv := by simp
  have lr : ((List.range nr).map R).length = nr := by simp
  have h9 := hv.reads
  rw [lv] at h9
  refine ⟨⟨some ⟨GV, 0, none⟩, nv, some ⟨GR, 0, none⟩, nr, by dsimp only; rw [lv, lr], by dsimp only; rw [lv]; exact h9, by dsimp only; rw [lr]; exact hr⟩, ⟨by dsimp only; rw [lv]; unfold maxLen; omega, by dsimp only; rw [lr]; unfold maxLen; omega⟩, ⟨by dsimp only; omega, by dsimp only; omega⟩, fun x hx => ?_, fun r hr => ?_⟩
  · obtain ⟨i, _, rfl⟩ := List.mem_map.1 hx
    exact hw i
  · obtain ⟨i, hi, rfl⟩ := List.mem_map.1 hr
    exact hx i (List.mem_range.1 hi)
theorem Du.start {w w3 wx : World} {na nb : Int} {a1 a2 b1 b2 : Value} {P GV GR k nv nr : Nat} {LV : List Nat} {LR : List Value} (h : Rs2 w w3 na a1 a2 nb b1 b2) (hb : Below w3.heap.size w3 wx)
    (hp : MBox wx P (k : Int) (.slice (some ⟨GV, 0, none⟩) nv nv) (.slice (some ⟨GR, 0, none⟩) nr nr)) (hv : HoldsU wx GV LV) (hr : HoldsV wx GR LR) (l1 : w.heap.size + 1 + 1 < P) (l2 : w.heap.size + 1 + 1 < GV) (l3 : w.heap.size + 1 + 1 < GR) :
    Du w wx na nb a1 a2 b1 b2 P GV GR k nv nr LV LR := by
  have h2 := h.keep hb
  exact ⟨h2.boxA, h2.boxB, h2.res, hp, hv, hr, h2.below, l1, l2, l3⟩
set_option maxHeartbeats 16000000 in
theorem pUnion_any (a b : Mo) (v v' : Value) (w : World) (hM : MoR w w.heap.size v a) (hM2 : MoR w w.heap.size v' b) :
    Calls Tryd.prog 23 #[v, v'] w fun e w' => ∃ u, e = .returned (.tuple #[u, .int .i64 (unionE a b)]) ∧ MoF w' w.heap.size u (unionM a b) ∧ Below w.heap.size w w' := by
  obtain ⟨A1, c1, A2, c2, rfl, hv, hr⟩ := hM.ex
  obtain ⟨B1, d1, B2, d2, rfl, hv2, hr2⟩ := hM2.ex
  have HR := Lib.hid (Rs2.made w a.n (.slice A1 a.val.length c1) (.slice A2 a.rel.length c2) b.n (.slice B1 b.val.length d1) (.slice B2 b.rel.length d2))
  have HCA := Lib.hid (fun W (hb : Below w.heap.size w W) => pCheck_any a (.agg #[.int .i64 a.n, .slice A1 a.val.length c1, .slice A2 a.rel.length c2]) W (hM.below hb hb.size))
  have HCB := Lib.hid (fun W (hb : Below w.heap.size w W) => pCheck_any b (.agg #[.int .i64 b.n, .slice B1 b.val.length d1, .slice B2 b.rel.length d2]) W (hM2.below hb hb.size))
  have HVA := Lib.hid hv
  have HVB := Lib.hid hv2
  have HRA := Lib.hid hr
  have HRB := Lib.hid hr2
  have HMA := Lib.hid hM
  have HMB := Lib.hid hM2
  have hlA := hM.lim
  have hlB := hM2.lim
  unfold maxLen at hlA hlB
  clear hM hM2 hv hv2 hr hr2
  by_cases hza : chkM a = 0
  · rw [hza] at HCA
    by_cases hzb : chkM b = 0
    · rw [hzb] at HCB
      have oka := chkM_ok hza
      have okb := chkM_ok hzb
      by_cases h3 : a.rel.length ≠ b.rel.length ∨ a.val.length ≠ b.val.length
      · have HE := Lib.hid (unionE_l hza hzb h3)
        clear oka okb hza hzb
        by_cases h5 : a.rel.length = b.rel.length
        · have h6 : a.val.length ≠ b.val.length := by rcases h3 with h | h; exact absurd h5 h; exact h
          have d1' : ((a.rel.length : Int) != (b.rel.length : Int)) = false := by rw [h5]; simp
          have d2' : ((a.val.length : Int) != (b.val.length : Int)) = true := by rw [bne_iff_ne]; omega
          clear h3 h5 h6
          generalize hq1 : a.val.length = va at *
          generalize hq2 : a.rel.length = ra at *
          generalize hq3 : b.val.length = vb at *
          generalize hq4 : b.rel.length = rb at *
          clear hq1 hq2 hq3 hq4
          go_enter Tryd.func23, Tryd.ntmps23
          go_wp2_with fail
          refine (HCA.out _ HR.out.below).mono ?_
          rintro e w2 ⟨rfl, hb2⟩
          have HR2 := Lib.hid (HR.out.keep hb2)
          clear hb2
          have g0 := HR2.out.boxB.c0
          have g1 := HR2.out.boxB.c1
          have g2 := HR2.out.boxB.c2
          go_wp2_with fail
          refine (HCB.out _ HR2.out.below).mono ?_
          rintro e w3 ⟨rfl, hb3⟩
          have HRX := Lib.hid (HR2.out.keep hb3)
          clear hb3 g0 g1 g2
          have z0 := HRX.out.boxA.c1
          have z1 := HRX.out.boxA.c2
          have z2 := HRX.out.boxB.c1
          have z3 := HRX.out.boxB.c2
          have y0 := HRX.out.res.c0
          have y1 := HRX.out.res.c1
          have y2 := HRX.out.res.c2
          have f0 := HRX.out.res.free 0
          have f1 := HRX.out.res.free 1
          have f2 := HRX.out.res.free 2
          go_wp2
          have HZ3 := Lib.hid (res_fin HRX.out.res HRX.out.below 0 (.slice none 0 0) (.slice none 0 0))
          clear y0 y1 y2 f0 f1 f2
          generalize (((w3.setCell ⟨w.heap.size + 1 + 1, 0, none⟩ (.int .i64 0)).setCell ⟨w.heap.size + 1 + 1, 1, none⟩ (.slice none 0 0)).setCell ⟨w.heap.size + 1 + 1, 2, none⟩ (.slice none 0 0)) = w7 at *
          (try simp only [Exit.inBlock, Exit.then])
          refine bodyPost_ret (ret_cellT rfl _ _ (w.heap.size + 1 + 1) _ _ _ _ rfl HZ3.out.1 Tryd.underlying25 rfl (by kernel_rfl)) rfl ?_
          exact ⟨_, by rw [HE.out.1]; rfl, by rw [HE.out.2]; exact MoF.zero _ _, HZ3.out.2.1⟩
        · have d1' : ((a.rel.length : Int) != (b.rel.length : Int)) = true := by rw [bne_iff_ne]; omega
          clear h3 h5
          generalize hq1 : a.val.length = va at *
          generalize hq2 : a.rel.length = ra at *
          generalize hq3 : b.val.length = vb at *
          generalize hq4 : b.rel.length = rb at *
          clear hq1 hq2 hq3 hq4
          go_enter Tryd.func23, Tryd.ntmps23
          go_wp2_with fail
          refine (HCA.out _ HR.out.below).mono ?_
          rintro e w2 ⟨rfl, hb2⟩
          have HR2 := Lib.hid (HR.out.keep hb2)
          clear hb2
          have g0 := HR2.out.boxB.c0
          have g1 := HR2.out.boxB.c1
          have g2 := HR2.out.boxB.c2
          go_wp2_with fail
          refine (HCB.out _ HR2.out.below).mono ?_
          rintro e w3 ⟨rfl, hb3⟩
          have HRX := Lib.hid (HR2.out.keep hb3)
          clear hb3 g0 g1 g2
          have z1 := HRX.out.boxA.c2
          have z3 := HRX.out.boxB.c2
          have y0 := HRX.out.res.c0
          have y1 := HRX.out.res.c1
          have y2 := HRX.out.res.c2
          have f0 := HRX.out.res.free 0
          have f1 := HRX.out.res.free 1
          have f2 := HRX.out.res.free 2
          go_wp2
          have HZ3 := Lib.hid (res_fin HRX.out.res HRX.out.below 0 (.slice none 0 0) (.slice none 0 0))
          clear y0 y1 y2 f0 f1 f2
          generalize (((w3.setCell ⟨w.heap.size + 1 + 1, 0, none⟩ (.int .i64 0)).setCell ⟨w.heap.size + 1 + 1, 1, none⟩ (.slice none 0 0)).setCell ⟨w.heap.size + 1 + 1, 2, none⟩ (.slice none 0 0)) = w7 at *
          (try simp only [Exit.inBlock, Exit.then])
          refine bodyPost_ret (ret_cellT rfl _ _ (w.heap.size + 1 + 1) _ _ _ _ rfl HZ3.out.1 Tryd.underlying25 rfl (by kernel_rfl)) rfl ?_
          exact ⟨_, by rw [HE.out.1]; rfl, by rw [HE.out.2]; exact MoF.zero _ _, HZ3.out.2.1⟩
      · have hrl : b.rel.length = a.rel.length := by omega
        have hvl : b.val.length = a.val.length := by omega
        have HNA := Lib.hid oka.num
        have HNB := Lib.hid okb.num
        have hla := oka.le
        have hlb := okb.le
        have hpa := oka.pos
        have hpb := okb.pos
        have hag := oka.agents
        have hfa := oka.facts
        by_cases h4 : 64 < a.n + b.n
        · have HE := Lib.hid (unionE_m hza hzb h3 h4)
          have hs : decide ((64 : Int) < (a.n.toNat : Int) + (b.n.toNat : Int)) = true := decide_eq_true (by have := HNA.out; have := HNB.out; omega)
          have HMVA : Hid (∀ W g v1 v2, MBox W g a.n v1 v2 → W.cell? ⟨g, 0, none⟩ = some (.int .i64 (a.n.toNat : Int))) := Lib.hid (fun W g v1 v2 h => by rw [h.c0, ← HNA.out])
          have HMVB : Hid (∀ W g v1 v2, MBox W g b.n v1 v2 → W.cell? ⟨g, 0, none⟩ = some (.int .i64 (b.n.toNat : Int))) := Lib.hid (fun W g v1 v2 h => by rw [h.c0, ← HNB.out])
          rw [hrl, hvl] at HR HCB HMB ⊢
          rw [hvl] at HVB
          rw [hrl] at HRB
          have d1' : ((a.rel.length : Int) != (a.rel.length : Int)) = false := by simp
          have d2' : ((a.val.length : Int) != (a.val.length : Int)) = false := by simp
          clear h3 h4 hrl hvl oka okb hza hzb HNA HNB
          generalize hq1 : a.val.length = va at *
          generalize hq2 : a.rel.length = ra at *
          clear hq1 hq2
          generalize a.n.toNat = na at *
          generalize b.n.toNat = nb at *
          go_enter Tryd.func23, Tryd.ntmps23
          go_wp2_with fail
          refine (HCA.out _ HR.out.below).mono ?_
          rintro e w2 ⟨rfl, hb2⟩
          have HR2 := Lib.hid (HR.out.keep hb2)
          clear hb2
          have g0 := HR2.out.boxB.c0
          have g1 := HR2.out.boxB.c1
          have g2 := HR2.out.boxB.c2
          go_wp2_with fail
          refine (HCB.out _ HR2.out.below).mono ?_
          rintro e w3 ⟨rfl, hb3⟩
          have HRX := Lib.hid (HR2.out.keep hb3)
          clear hb3 g0 g1 g2
          have z0 := HRX.out.boxA.c1
          have z1 := HRX.out.boxA.c2
          have z2 := HRX.out.boxB.c1
          have z3 := HRX.out.boxB.c2
          have z4 := HMVA.out _ _ _ _ HRX.out.boxA
          have z5 := HMVB.out _ _ _ _ HRX.out.boxB
          have y0 := HRX.out.res.c0
          have y1 := HRX.out.res.c1
          have y2 := HRX.out.res.c2
          have f0 := HRX.out.res.free 0
          have f1 := HRX.out.res.free 1
          have f2 := HRX.out.res.free 2
          go_wp2
          have HZ3 := Lib.hid (res_fin HRX.out.res HRX.out.below 0 (.slice none 0 0) (.slice none 0 0))
          clear y0 y1 y2 f0 f1 f2
          generalize (((w3.setCell ⟨w.heap.size + 1 + 1, 0, none⟩ (.int .i64 0)).setCell ⟨w.heap.size + 1 + 1, 1, none⟩ (.slice none 0 0)).setCell ⟨w.heap.size + 1 + 1, 2, none⟩ (.slice none 0 0)) = w7 at *
          (try simp only [Exit.inBlock, Exit.then])
          refine bodyPost_ret (ret_cellT rfl _ _ (w.heap.size + 1 + 1) _ _ _ _ rfl HZ3.out.1 Tryd.underlying25 rfl (by kernel_rfl)) rfl ?_
          exact ⟨_, by rw [HE.out.1]; rfl, by rw [HE.out.2]; exact MoF.zero _ _, HZ3.out.2.1⟩
        · have HE := Lib.hid (unionE_ok hza hzb h3 h4)
          have hs : decide ((64 : Int) < (a.n.toNat : Int) + (b.n.toNat : Int)) = false := decide_eq_false (by have := HNA.out; have := HNB.out; omega)
          have hsum : a.n.toNat + b.n.toNat ≤ 64 := by have := HNA.out; have := HNB.out; omega
          have HSUM : Hid (a.n + b.n = ((a.n.toNat + b.n.toNat : Nat) : Int)) := Lib.hid (by have := HNA.out; have := HNB.out; omega)
          have HMVA : Hid (∀ W g v1 v2, MBox W g a.n v1 v2 → W.cell? ⟨g, 0, none⟩ = some (.int .i64 (a.n.toNat : Int))) := Lib.hid (fun W g v1 v2 h => by rw [h.c0, ← HNA.out])
          have HMVB : Hid (∀ W g v1 v2, MBox W g b.n v1 v2 → W.cell? ⟨g, 0, none⟩ = some (.int .i64 (b.n.toNat : Int))) := Lib.hid (fun W g v1 v2 h => by rw [h.c0, ← HNB.out])
          rw [hrl, hvl] at HR HCB HMB ⊢
          rw [hvl] at HVB
          rw [hrl] at HRB
          have d1' : ((a.rel.length : Int) != (a.rel.length : Int)) = false := by simp
          have d2' : ((a.val.length : Int) != (a.val.length : Int)) = false := by simp
          have HKA := Lib.hid oka
          have HKB := Lib.hid okb
          have HLR := Lib.hid hrl
          have HLV := Lib.hid hvl
          have HEM : Hid (unionM a b = ⟨a.n + b.n, (List.range a.val.length).map (unionV a b), (List.range a.rel.length).map (unionR a b)⟩) := Lib.hid HE.out.2
          clear h3 h4 hrl hvl oka okb hza hzb HNA HNB hlA hlB
          have HUV : Hid (∀ i, unionV a b i = a.val.getD i 0 ||| (b.val.getD i 0) * 2 ^ a.n.toNat) := Lib.hid (fun _ => rfl)
          have HUR : Hid (∀ i, unionR a b i = a.rel.getD i [] ++ shR (b.rel.getD i []) a.n.toNat) := Lib.hid (fun _ => rfl)
          generalize hq1 : a.val.length = nv at *
          generalize hq2 : a.rel.length = nr at *
          have HQV := Lib.hid hq1
          have HQR := Lib.hid hq2
          clear hq1 hq2
          generalize a.n.toNat = na at *
          generalize b.n.toNat = nb at *
          have HWA := Lib.hid (fun j => words_getD HMA.out.wval j)
          have HWB : Hid (∀ j, b.val.getD j 0 < 2 ^ nb) := Lib.hid (fun j => by
            by_cases hj : j < b.val.length
            · exact HKB.out.val _ (getD_mem' hj)
            · rw [List.getD_eq_getElem?_getD, List.getElem?_eq_none (by omega)]; exact Nat.two_pow_pos nb)
          have HXB := Lib.hid (fun i j => relW_lt HKB.out.rel i j)
          have HLA := Lib.hid (fun i (h : i < nr) => HKA.out.len (a.rel.getD i []) (getD_mem' (by have := HQR.out; omega)))
          have HLB := Lib.hid (fun i (h : i < nr) => HKB.out.len (b.rel.getD i []) (getD_mem' (by have := HQR.out; have := HLR.out; omega)))
          go_enter Tryd.func23, Tryd.ntmps23
          go_wp2_with fail
          refine (HCA.out _ HR.out.below).mono ?_
          rintro e w2 ⟨rfl, hb2⟩
          have HR2 := Lib.hid (HR.out.keep hb2)
          clear hb2
          have g0 := HR2.out.boxB.c0
          have g1 := HR2.out.boxB.c1
          have g2 := HR2.out.boxB.c2
          go_wp2_with fail
          refine (HCB.out _ HR2.out.below).mono ?_
          rintro e w3 ⟨rfl, hb3⟩
          have HRX := Lib.hid (HR2.out.keep hb3)
          clear hb3 g0 g1 g2
          have z0 := HRX.out.boxA.c1
          have z1 := HRX.out.boxA.c2
          have z2 := HRX.out.boxB.c1
          have z3 := HRX.out.boxB.c2
          have z4 := HMVA.out _ _ _ _ HRX.out.boxA
          have z5 := HMVB.out _ _ _ _ HRX.out.boxB
          have hmk0 := fun W => makeU W nv (by omega)
          have hmk1 := fun W => makeV W nr (by omega)
          have hs3 : w.heap.size + 1 + 1 < w3.heap.size := HRX.out.res.lt
          have hb1A : ∀ (o : Obj) (k : Nat), (w3.alloc o).cell? ⟨w.heap.size, k, none⟩ = w3.cell? ⟨w.heap.size, k, none⟩ := fun o k => World.cell?_alloc_lt w3 o ⟨w.heap.size, k, none⟩ (by show w.heap.size < w3.heap.size; omega)
          have hb2A : ∀ (o o2 : Obj) (k : Nat), ((w3.alloc o).alloc o2).cell? ⟨w.heap.size, k, none⟩ = w3.cell? ⟨w.heap.size, k, none⟩ := fun o o2 k => (World.cell?_alloc_lt _ o2 ⟨w.heap.size, k, none⟩ (by simp; omega)).trans (hb1A o k)
          have hb3A : ∀ (o o2 o3 : Obj) (k : Nat), (((w3.alloc o).alloc o2).alloc o3).cell? ⟨w.heap.size, k, none⟩ = w3.cell? ⟨w.heap.size, k, none⟩ := fun o o2 o3 k => (World.cell?_alloc_lt _ o3 ⟨w.heap.size, k, none⟩ (by simp; omega)).trans (hb2A o o2 k)
          have hb1B : ∀ (o : Obj) (k : Nat), (w3.alloc o).cell? ⟨w.heap.size + 1, k, none⟩ = w3.cell? ⟨w.heap.size + 1, k, none⟩ := fun o k => World.cell?_alloc_lt w3 o ⟨w.heap.size + 1, k, none⟩ (by show w.heap.size + 1 < w3.heap.size; omega)
          have hb2B : ∀ (o o2 : Obj) (k : Nat), ((w3.alloc o).alloc o2).cell? ⟨w.heap.size + 1, k, none⟩ = w3.cell? ⟨w.heap.size + 1, k, none⟩ := fun o o2 k => (World.cell?_alloc_lt _ o2 ⟨w.heap.size + 1, k, none⟩ (by simp; omega)).trans (hb1B o k)
          have hb3B : ∀ (o o2 o3 : Obj) (k : Nat), (((w3.alloc o).alloc o2).alloc o3).cell? ⟨w.heap.size + 1, k, none⟩ = w3.cell? ⟨w.heap.size + 1, k, none⟩ := fun o o2 o3 k => (World.cell?_alloc_lt _ o3 ⟨w.heap.size + 1, k, none⟩ (by simp; omega)).trans (hb2B o o2 k)
          go_upto_region 11 with fail
          go_cut [8] from 48 to 61 (fun v8 wx => ∃ P GV GR : Nat, v8 = .pointer (some ⟨P, 0, none⟩) ∧ Hid (Du w wx a.n b.n (.slice A1 nv c1) (.slice A2 nr c2) (.slice B1 nv d1) (.slice B2 nr d2) P GV GR (na + nb) nv nr (List.replicate nv 0) (List.replicate nr (.slice none 0 0))))
          case first =>
            go_big_region
            all_goals (go_wp2_with fail; go_meet)
            all_goals
              have h3a := three_at w3
              first
                | exact ⟨w3.heap.size, w3.heap.size + 1, w3.heap.size + 1 + 1, rfl, Lib.hid (Du.start HRX.out (h3a _ _ _ _ _ _).2.2.2 (h3a _ _ _ _ _ _).1 (h3a _ _ _ _ _ _).2.1 (h3a _ _ _ _ _ _).2.2.1 (by omega) (by omega) (by omega))⟩
                | exact ⟨w3.heap.size, w3.heap.size + 1 + 1, w3.heap.size + 1, rfl, Lib.hid (Du.start HRX.out (h3a _ _ _ _ _ _).2.2.2 (h3a _ _ _ _ _ _).1 (h3a _ _ _ _ _ _).2.2.1 (h3a _ _ _ _ _ _).2.1 (by omega) (by omega) (by omega))⟩
                | exact ⟨w3.heap.size + 1, w3.heap.size, w3.heap.size + 1 + 1, rfl, Lib.hid (Du.start HRX.out (h3a _ _ _ _ _ _).2.2.2 (h3a _ _ _ _ _ _).2.1 (h3a _ _ _ _ _ _).1 (h3a _ _ _ _ _ _).2.2.1 (by omega) (by omega) (by omega))⟩
                | exact ⟨w3.heap.size + 1, w3.heap.size + 1 + 1, w3.heap.size, rfl, Lib.hid (Du.start HRX.out (h3a _ _ _ _ _ _).2.2.2 (h3a _ _ _ _ _ _).2.1 (h3a _ _ _ _ _ _).2.2.1 (h3a _ _ _ _ _ _).1 (by omega) (by omega) (by omega))⟩
                | exact ⟨w3.heap.size + 1 + 1, w3.heap.size, w3.heap.size + 1, rfl, Lib.hid (Du.start HRX.out (h3a _ _ _ _ _ _).2.2.2 (h3a _ _ _ _ _ _).2.2.1 (h3a _ _ _ _ _ _).1 (h3a _ _ _ _ _ _).2.1 (by omega) (by omega) (by omega))⟩
                | exact ⟨w3.heap.size + 1 + 1, w3.heap.size + 1, w3.heap.size, rfl, Lib.hid (Du.start HRX.out (h3a _ _ _ _ _ _).2.2.2 (h3a _ _ _ _ _ _).2.2.1 (h3a _ _ _ _ _ _).2.1 (h3a _ _ _ _ _ _).1 (by omega) (by omega) (by omega))⟩
          case rest =>
            obtain ⟨P, GV, GR, rfl, HD⟩ := hcut
            clear z0 z1 z2 z3 z4 z5 hmk0 hmk1 hb1A hb2A hb3A hb1B hb2B hb3B hs3
            generalize hKK : na + nb = K at *
            have HKK := Lib.hid hKK
            clear hKK
            have hK64 : K ≤ 64 := hsum
            have hnaK : na ≤ K := by have := HKK.out; omega
            clear hsum hs
            have p1 := HD.out.part.c1
            have hnr8 : nv ≤ 8 ∧ nr ≤ 4 := ⟨hfa, hag⟩
            go_wp2
            clear p1
            go_loopw [9, 65] (fun _ i wr => ∃ j : Nat, j ≤ nv ∧ i = .int .i64 j ∧ Hid (Du w wr a.n b.n (.slice A1 nv c1) (.slice A2 nr c2) (.slice B1 nv d1) (.slice B2 nr d2) P GV GR K nv nr (fillL (unionV a b) 0 nv j) (List.replicate nr (.slice none 0 0)))) (fun _ i _ => nv - (intOf i).toNat)
            case atStart => exact ⟨0, Nat.zero_le _, rfl, Lib.hid (by rw [fillL_zero]; exact HD.out)⟩
            case round =>
              obtain ⟨j, hj, rfl, HDj⟩ := hrel
              have p1 := HDj.out.part.c1
              by_cases hlt : j < nv
              · have z1 := HDj.out.boxA.c1
                have z2 := HDj.out.boxB.c1
                have z0 := HMVA.out _ _ _ _ HDj.out.boxA
                obtain ⟨adA, rfl, hbA, hcA⟩ := (HVA.out.below HDj.out.below).word_k hlt
                obtain ⟨adB, rfl, hbB, hcB⟩ := (HVB.out.below HDj.out.below).word_k hlt
                have hsf := shl_fit (HWB.out j) (show na + nb ≤ 64 by have := HKK.out; omega)
                have hor := u64_or_nat (a.val.getD j 0) (b.val.getD j 0 * 2 ^ na) (HWA.out j) hsf.1
                have HUJ := Lib.hid (HUV.out j)
                have hsh := hsf.2
                have hfr := HDj.out.val.free j
                have hcv := HDj.out.val.cell j (by rw [fillL_len _ _ hj]; exact hlt)
                have HSET := Lib.hid (fillL_set (unionV a b) 0 hlt rfl)
                clear hsf hbA hbB
                generalize a.val.getD j 0 = xa at *
                generalize b.val.getD j 0 = xb at *
                generalize xb * 2 ^ na = xs at *
                go_wp2
                refine wp_region_still_tail 18 (by kernel_rfl) (by kernel_rfl) ?_
                simp only [List.take_succ_cons, List.take_zero, List.drop_succ_cons, List.drop_zero]
                repeat still_step
                try refine wpStill_nil ?_
                change wpList _ _ _ _ _ wr.drew
                have HDd := Lib.hid (HDj.out.drew)
                have hfr2 := HDd.out.val.free j
                have hcv2 := HDd.out.val.cell j (by rw [fillL_len _ _ hj]; exact hlt)
                clear hfr hcv hcA hcB p1 z0 z1 z2
                generalize wr.drew = w4 at *
                go_wp2
                go_roundw
                case rel => exact ⟨j + 1, by omega, by go_num, Lib.hid (by have h9 := HDd.out.putV j (xa ||| xs); rw [← HUJ.out, HSET.out] at h9; rw [← HUJ.out]; exact h9)⟩
                case measure => first | (simp [intOf]; done) | (simp [intOf]; omega)
              · obtain rfl : nv = j := by omega
                have HDF := HDj
                rw [fillL_full] at HDF
                have p2 := HDF.out.part.c2
                clear hlt HDj
                go_wp2
                clear p1 p2
                go_loopw [10, 11, 90] (fun _ _ i wx => ∃ (t : Nat) (vs : List Value), t ≤ nr ∧ i = .int .i64 t ∧ Hid (vs.length = t) ∧ Hid (Du w wx a.n b.n (.slice A1 nv c1) (.slice A2 nr c2) (.slice B1 nv d1) (.slice B2 nr d2) P GV GR K nv nr ((List.range nv).map (unionV a b)) (vs ++ List.replicate (nr - t) (.slice none 0 0))) ∧ Hid (RowsP wx (w.heap.size + 1 + 1) K (unionR a b) vs t)) (fun _ _ i _ => nr - (intOf i).toNat)
                case atStart => exact ⟨0, [], Nat.zero_le _, rfl, Lib.hid rfl, HDF, Lib.hid (fun j hj => absurd hj (by omega))⟩
                case round =>
                  obtain ⟨t, vs, ht, rfl, HVL, HDt, HRW⟩ := hrel
                  by_cases hlt : t < nr
                  · obtain ⟨adA, AA, ca, rfl, hbA, hcA0, hrA, hlA⟩ := HRA.out.at_ hlt
                    obtain ⟨adB, AB, cb, rfl, hbB, hcB0, hrB, hlB⟩ := HRB.out.at_ hlt
                    rw [HLA.out t hlt] at hcA0 hrA
                    rw [HLB.out t hlt] at hcB0 hrB
                    have HLa := Lib.hid (HLA.out t hlt)
                    have HLb := Lib.hid (HLB.out t hlt)
                    have HURt := Lib.hid (HUR.out t)
                    have HXt := Lib.hid (fun j => HXB.out t j)
                    generalize a.rel.getD t [] = rA at *
                    generalize b.rel.getD t [] = rB at *
                    have hszr : w.heap.size + 1 + 1 < wr.heap.size := HDt.out.res.lt
                    have HKB2 : Hid (∀ W, Below wr.heap.size wr W → W.cell? ⟨P, 2, none⟩ = some (.slice (some ⟨GR, 0, none⟩) nr nr) ∧ W.cell? ⟨w.heap.size, 2, none⟩ = some (.slice (some adA) nr c2) ∧ W.cell? ⟨w.heap.size + 1, 2, none⟩ = some (.slice (some adB) nr d2) ∧ W.cell? (adA.add t) = some (.slice AA na ca) ∧ W.cell? (adB.add t) = some (.slice AB nb cb)) := Lib.hid (fun W hW => by
                      have h := HDt.out.behind hW
                      exact ⟨h.part.c2, h.boxA.c2, h.boxB.c2, (h.below.cell (p := adA.add t) (by rw [block_of_add]; exact hbA)).trans hcA0, (h.below.cell (p := adB.add t) (by rw [block_of_add]; exact hbB)).trans hcB0⟩)
                    have HKS : Hid (∀ W, Below wr.heap.size wr W → ∀ u, (W.setCell ⟨GR, t, none⟩ u).cell? ⟨P, 2, none⟩ = some (.slice (some ⟨GR, 0, none⟩) nr nr) ∧ (W.setCell ⟨GR, t, none⟩ u).cell? ⟨w.heap.size, 2, none⟩ = some (.slice (some adA) nr c2) ∧ (W.setCell ⟨GR, t, none⟩ u).cell? ⟨w.heap.size + 1, 2, none⟩ = some (.slice (some adB) nr d2) ∧ (W.setCell ⟨GR, t, none⟩ u).cell? (adA.add t) = some (.slice AA na ca) ∧ (W.setCell ⟨GR, t, none⟩ u).cell? (adB.add t) = some (.slice AB nb cb)) := Lib.hid (fun W hW u => by
                      have h := (HDt.out.behind hW).putR t u
                      exact ⟨h.part.c2, h.boxA.c2, h.boxB.c2, (h.below.cell (p := adA.add t) (by rw [block_of_add]; exact hbA)).trans hcA0, (h.below.cell (p := adB.add t) (by rw [block_of_add]; exact hbB)).trans hcB0⟩)
                    have HBA : Hid (Below wr.heap.size wr (wr.alloc (.cells #[.slice AA na ca, .slice AB nb cb] 22)).drew) := Lib.hid ((Below.refl _ wr).alloc (Nat.le_refl _) _).drew
                    have HKA2 := Lib.hid (HKB2.out _ HBA.out)
                    have hnn : rA.length + rB.length = K := by have := HLa.out; have := HLb.out; have := HKK.out; omega
                    have HCC : Hid (Calls Tryd.prog 45 #[.slice (some ⟨wr.heap.size, 0, none⟩) 2 2] (wr.alloc (.cells #[.slice AA na ca, .slice AB nb cb] 22)).drew fun e w' => ∃ g0 c0, e = .returned (.slice (some ⟨g0, 0, none⟩) K c0) ∧ wr.heap.size < g0 ∧ HoldsP w' g0 (rA ++ rB) ∧ Below wr.heap.size wr w') := Lib.hid (by
                      have hbw : Below w.heap.size w (wr.alloc (.cells #[.slice AA na ca, .slice AB nb cb] 22)).drew := HDt.out.below.trans (HBA.out.mono (by omega))
                      have hH : (wr.alloc (.cells #[.slice AA na ca, .slice AB nb cb] 22)).drew.heap[wr.heap.size]? = some (.cells #[.slice AA na ca, .slice AB nb cb] 22 (0, 0)) := heap_alloc_new wr _
                      have hS : Srcs (wr.alloc (.cells #[.slice AA na ca, .slice AB nb cb] 22)).drew (wr.alloc (.cells #[.slice AA na ca, .slice AB nb cb] 22)).drew.heap.size wr.heap.size 2 (fun k => if k = 0 then AA else AB) (fun k => if k = 0 then na else nb) (fun k => if k = 0 then ca else cb) (fun k => if k = 0 then rA else rB) := by
                        intro k hk
                        have hnone : ∀ {A : Option Addr} {q : Nat} {l : List Nat} {W : World} {B : Nat}, Reads W B 1 A q (us l) → 1 ≤ q → ∀ {c : Nat}, (A = none → q = 0 ∧ c = 0) := fun h hq c hA => by
                          obtain ⟨ad, e, _⟩ := h.2 (by omega)
                          rw [hA] at e; cases e
                        match k, hk with
                        | 0, _ => exact ⟨by rw [Lib.cell_of_heap hH]; rfl, (hrA.below hbw).more hbw.size, hnone hrA hpa, by show na ≤ 1000; omega⟩
                        | 1, _ => exact ⟨by rw [Lib.cell_of_heap hH]; rfl, (hrB.below hbw).more hbw.size, hnone hrB hpb, by show nb ≤ 1000; have := HKK.out; omega⟩
                      have hc := pConcat_any wr.heap.size 2 _ _ _ _ (wr.alloc (.cells #[.slice AA na ca, .slice AB nb cb] 22)).drew (by show wr.heap.size < (wr.alloc _).heap.size; simp) (by omega) hS
                      refine hc.mono ?_
                      rintro e w' ⟨v', rfl, ho, hb⟩
                      have ec : catW (fun k => if k = 0 then rA else rB) 2 = rA ++ rB := by simp [catW]
                      rw [ec] at ho
                      obtain ⟨g0, c0, rfl, hg0, hP0⟩ := own_P ho (by rw [List.length_append]; omega)
                      have hsA : (wr.alloc (.cells #[.slice AA na ca, .slice AB nb cb] 22)).drew.heap.size = wr.heap.size + 1 := by show (wr.alloc _).heap.size = _; simp
                      refine ⟨g0, c0, by rw [List.length_append, hnn], by omega, hP0, HBA.out.trans (hb.mono (by omega))⟩)
                    have hS0 := HKB2.out wr (Below.refl _ _)
                    obtain ⟨q1, q2, q3, q4, q5⟩ := hS0
                    have HRC : Hid (∀ W, Below wr.heap.size wr W → ∃ old, W.cell? ⟨GR, t, none⟩ = some old ∧ W.frozen? ⟨GR, t, none⟩ = false) := Lib.hid (fun W hW => ⟨_, (HDt.out.behind hW).rel.cell t (by rw [List.length_append, HVL.out, List.length_replicate]; omega), (HDt.out.behind hW).rel.free t⟩)
                    clear hrA hrB hlA hlB hcA0 hcB0
                    go_wp2
                    go_region_held3 (fun W => W.cell? ⟨P, 2, none⟩ = some (.slice (some ⟨GR, 0, none⟩) nr nr) ∧ W.cell? ⟨w.heap.size, 2, none⟩ = some (.slice (some adA) nr c2) ∧ W.cell? ⟨w.heap.size + 1, 2, none⟩ = some (.slice (some adB) nr d2) ∧ W.cell? (adA.add t) = some (.slice AA na ca) ∧ W.cell? (adB.add t) = some (.slice AB nb cb)) (first | assumption | (refine ⟨?_, ?_, ?_, ?_, ?_⟩ <;> assumption) | exact HKA2.out | exact HKB2.out _ HB5.out | exact HKS.out _ HB5.out _)
                      (first
                        | (go_at_call 45; refine (HCC.out).mono ?_; rintro e w5 ⟨g0, c0, rfl, hg0, hP0, hb5⟩; have HB5 := Lib.hid hb5; have HP0 := Lib.hid hP0; obtain ⟨old, hold, hfz⟩ := HRC.out w5 hb5; clear hb5 hP0))
                    have HDn : Hid (Du w (w5.setCell ⟨GR, t, none⟩ (.slice (some ⟨g0, 0, none⟩) K c0)) a.n b.n (.slice A1 nv c1) (.slice (some adA) nr c2) (.slice B1 nv d1) (.slice (some adB) nr d2) P GV GR K nv nr ((List.range nv).map (unionV a b)) ((vs ++ [.slice (some ⟨g0, 0, none⟩) K c0]) ++ List.replicate (nr - (t + 1)) (.slice none 0 0))) := Lib.hid (by
                      have h9 := (HDt.out.behind HB5.out).putR t (.slice (some ⟨g0, 0, none⟩) K c0)
                      rw [show nr - t = (nr - (t + 1)) + 1 by omega, List.replicate_succ, List.set_append_right _ _ (by have := HVL.out; omega), HVL.out, Nat.sub_self, List.set_cons_zero] at h9
                      rw [List.append_assoc]
                      exact h9)
                    have HRn : Hid (RowsP (w5.setCell ⟨GR, t, none⟩ (.slice (some ⟨g0, 0, none⟩) K c0)) (w.heap.size + 1 + 1) K (unionR a b) vs t) := Lib.hid ((HRW.out.behind HB5.out).keepV (OnlyB.set GR t _ _) (HDt.out.behind HB5.out).rel)
                    have HUn : Hid (HoldsP (w5.setCell ⟨GR, t, none⟩ (.slice (some ⟨g0, 0, none⟩) K c0)) g0 (rA ++ rB)) := Lib.hid (HP0.out.blk (Below.heap_setCell w5 _ _ g0 (by have := HDt.out.rel.lt; show g0 ≠ GR; omega)))
                    have HGlo : Hid (w.heap.size + 1 + 1 < g0 ∧ P < g0 ∧ GV < g0 ∧ GR < g0) := Lib.hid ⟨by omega, by have := HDt.out.part.lt; omega, by have := HDt.out.val.lt; omega, by have := HDt.out.rel.lt; omega⟩
                    have HGL : Hid (∀ j, j < t → ∀ g c, vs[j]? = some (.slice (some ⟨g, 0, none⟩) K c) → g < g0) := Lib.hid (fun j hj g c hg => by
                      obtain ⟨g', c', h1, h2, _⟩ := HRW.out j hj
                      rw [h1] at hg
                      injection hg with hg
                      injection hg with hg
                      injection hg with hg
                      injection hg with hg
                      have := h2.lt
                      omega)
                    have HVL2 := HVL
                    clear hbA hbB hold hfz q1 q2 q3 q4 q5
                    generalize w5.setCell ⟨GR, t, none⟩ (.slice (some ⟨g0, 0, none⟩) K c0) = w6 at *
                    have hcl : ((vs ++ [Value.slice (some ⟨g0, 0, none⟩) K c0]) ++ List.replicate (nr - (t + 1)) (Value.slice none 0 0)).getD t undef = .slice (some ⟨g0, 0, none⟩) K c0 := by
                      rw [List.getD_eq_getElem?_getD, List.append_assoc, List.getElem?_append_right (by have := HVL.out; omega), HVL.out, Nat.sub_self]
                      rfl
                    have hcr5 := HDn.out.rel.cell t (by rw [List.length_append, List.length_append, HVL.out, List.length_replicate]; simp; omega)
                    rw [hcl] at hcr5
                    have HCR := Lib.hid hcr5
                    have k0 := HMVA.out _ _ _ _ HDn.out.boxA
                    clear hcl hcr5
                    go_wp2
                    clear k0
                    go_loopw [11] (fun i wy => ∃ x : Nat, na ≤ x ∧ x ≤ K ∧ i = .int .i64 x ∧ Hid (HoldsP wy g0 (fR rA rB na (x - na))) ∧ Hid (OnlyB g0 w6 wy)) (fun i _ => K - (intOf i).toNat)
                    case atStart => exact ⟨na, Nat.le_refl _, hnaK, rfl, Lib.hid (by rw [Nat.sub_self, fR_zero]; exact HUn.out), Lib.hid (OnlyB.refl _ _)⟩
                    case round =>
                      obtain ⟨x, hxa, hxk, rfl, HU, HO⟩ := hrel
                      have k1 := (HO.out.cell (p := ⟨P, 0, none⟩) HDn.out.part.lt (by have := HGlo.out; show P ≠ g0; omega)).trans HDn.out.part.c0
                      by_cases hlx : x < K
                      · have hpp := (HO.out.cell (p := ⟨P, 2, none⟩) HDn.out.part.lt (by have := HGlo.out; show P ≠ g0; omega)).trans HDn.out.part.c2
                        have hgr := (HO.out.cell (p := ⟨GR, t, none⟩) HDn.out.rel.lt (by have := HGlo.out; show GR ≠ g0; omega)).trans HCR.out
                        have k2 := (HO.out.cell (p := ⟨w.heap.size, 0, none⟩) HDn.out.boxA.lt (by have := HGlo.out; show w.heap.size ≠ g0; omega)).trans (HMVA.out _ _ _ _ HDn.out.boxA)
                        have hjb : x - na < rB.length := by have := HLb.out; have := HKK.out; omega
                        have hxe : rA.length + (x - na) = x := by have := HLa.out; omega
                        have hcu := HU.out.cell x (by rw [fR_len]; omega)
                        have hfu := HU.out.free x
                        have hget := fR_get (ra := rA) (k := na) hjb
                        have HSET := Lib.hid (fR_set (ra := rA) (k := na) hjb)
                        rw [hxe] at hget HSET
                        rw [hget] at hcu
                        have hsf := shl_fit (HXt.out (x - na)) (show na + nb ≤ 64 by have := HKK.out; omega)
                        have hsh := hsf.2
                        rw [show x - na + 1 = (x + 1) - na by omega] at HSET
                        clear hget hsf hxe hjb
                        generalize rB.getD (x - na) 0 = z at *
                        generalize z * 2 ^ na = zs at *
                        go_wp2
                        refine wp_region_still_tail 12 (by kernel_rfl) (by kernel_rfl) ?_
                        simp only [List.take_succ_cons, List.take_zero, List.drop_succ_cons, List.drop_zero]
                        repeat still_step
                        try refine wpStill_nil ?_
                        change wpList _ _ _ _ _ wr.drew
                        have HUd : Hid (HoldsP wr.drew g0 (fR rA rB na (x - na))) := HU
                        have HOd : Hid (OnlyB g0 w6 wr.drew) := Lib.hid HO.out.drew
                        have hcu2 : wr.drew.cell? ⟨g0, x, none⟩ = _ := hcu
                        have hfu2 := HUd.out.free x
                        clear hcu hfu hgr hpp k1 k2 HU HO
                        generalize wr.drew = w8 at *
                        go_wp2
                        go_roundw
                        case rel => exact ⟨x + 1, by omega, by omega, by go_num, Lib.hid (by have h9 := HUd.out.put x zs; rw [HSET.out] at h9; exact h9), Lib.hid (HOd.out.trans (OnlyB.set g0 x _ _))⟩
                        case measure => first | (simp [intOf]; done) | (simp [intOf]; omega)
                      · obtain rfl : K = x := by omega
                        have HUf := HU
                        rw [show K - na = rB.length by have := HLb.out; have := HKK.out; omega, fR_full, ← HURt.out] at HUf
                        have HDf := Lib.hid (HDn.out.keep HO.out (.inr ⟨HGlo.out.1, by have := HGlo.out; omega, by have := HGlo.out; omega, by have := HGlo.out; omega⟩))
                        have HRf : Hid (RowsP wr (w.heap.size + 1 + 1) K (unionR a b) (vs ++ [.slice (some ⟨g0, 0, none⟩) K c0]) (t + 1)) := Lib.hid (by
                          refine RowsP.snoc (fun j hj => ?_) HVL.out HUf.out HGlo.out.1
                          obtain ⟨g, c, h1, h2, h3⟩ := HRn.out j hj
                          exact ⟨g, c, h1, h2.blk (HO.out.block g h2.lt (by have := HGL.out j hj g c h1; omega)), h3⟩)
                        clear hlx HU
                        go_wp2
                        clear k1
                        go_roundw
                        case rel => exact ⟨t + 1, vs ++ [.slice (some ⟨g0, 0, none⟩) K c0], by omega, by go_num, Lib.hid (by rw [List.length_append, HVL.out]; rfl), HDf, HRf⟩
                        case measure => first | (simp [intOf]; done) | (simp [intOf]; omega)
                  · obtain rfl : nr = t := by omega
                    have HDz := HDt
                    rw [Nat.sub_self, List.replicate_zero, List.append_nil] at HDz
                    have q0 := HDz.out.part.c0
                    have q1 := HDz.out.part.c1
                    have q2 := HDz.out.part.c2
                    clear hlt HDt
                    have y0 := HDz.out.res.c0
                    have y1 := HDz.out.res.c1
                    have y2 := HDz.out.res.c2
                    have f0 := HDz.out.res.free 0
                    have f1 := HDz.out.res.free 1
                    have f2 := HDz.out.res.free 2
                    go_wp2
                    have HZ3 := Lib.hid (res_fin HDz.out.res HDz.out.below (K : Int) (.slice (some ⟨GV, 0, none⟩) nv nv) (.slice (some ⟨GR, 0, none⟩) nr nr))
                    clear y0 y1 y2 f0 f1 f2
                    generalize (((wr.setCell ⟨w.heap.size + 1 + 1, 0, none⟩ (.int .i64 (K : Int))).setCell ⟨w.heap.size + 1 + 1, 1, none⟩ (.slice (some ⟨GV, 0, none⟩) nv nv)).setCell ⟨w.heap.size + 1 + 1, 2, none⟩ (.slice (some ⟨GR, 0, none⟩) nr nr)) = w7 at *
                    (try simp only [Exit.inBlock, Exit.then])
                    refine bodyPost_ret (ret_cellT rfl _ _ (w.heap.size + 1 + 1) _ _ _ _ rfl HZ3.out.1 Tryd.underlying25 rfl (by kernel_rfl)) rfl ?_
                    have hvv : HoldsU w7 GV ((List.range nv).map (unionV a b)) := (HZ3.out.2.2.block GV HDz.out.val.lt (by have := HDz.out.lt2; omega)).trans HDz.out.val
                    have hrr : HoldsV w7 GR vs := (HZ3.out.2.2.block GR HDz.out.rel.lt (by have := HDz.out.lt3; omega)).trans HDz.out.rel
                    have hro : RowsP w7 (w.heap.size + 1 + 1) K (unionR a b) vs nr := fun j hj => by
                      obtain ⟨g, c, h1, h2, h3⟩ := HRW.out j hj
                      exact ⟨g, c, h1, h2.blk (HZ3.out.2.2.block g h2.lt (by omega)), h3⟩
                    refine ⟨_, by rw [HE.out.1]; rfl, fun W' _ hag => ?_, HZ3.out.2.1⟩
                    have hvv : HoldsU W' GV ((List.range nv).map (unionV a b)) := (hag GV (by have := HDz.out.lt2; omega) hvv.lt).trans hvv
                    have hrr : HoldsV W' GR vs := (hag GR (by have := HDz.out.lt3; omega) hrr.lt).trans hrr
                    have hro : RowsP W' (w.heap.size + 1 + 1) K (unionR a b) vs nr := fun j hj => by
                      obtain ⟨g, c, h1, h2, h3⟩ := hro j hj
                      exact ⟨g, c, h1, h2.blk (hag g (by omega) h2.lt), h3⟩
                    have eM := HEM.out
                    rw [HSUM.out] at eM
                    rw [eM]
                    exact MoR.union (by omega) hvv hrr (hro.usr HVL.out (fun j hj => by rw [HUR.out, List.length_append, HLA.out j hj]; unfold shR; rw [List.length_map, HLB.out j hj]; exact HKK.out) (by unfold maxLen; omega) hrr) (fun j => by rw [HUV.out]; exact Nat.or_lt_two_pow (n := 64) (HWA.out j) (shl_fit (HWB.out j) (show na + nb ≤ 64 by have := HKK.out; omega)).1) (fun j hj x hx => by
                      rw [HUR.out] at hx
                      rcases List.mem_append.1 hx with hx | hx
                      · exact Nat.lt_of_lt_of_le (HKA.out.rel _ (getD_mem' (by have := HQR.out; omega)) x hx) (Nat.pow_le_pow_right (show 0 < 2 by decide) hla)
                      · unfold shR at hx
                        obtain ⟨y, hy, rfl⟩ := List.mem_map.1 hx
                        exact (shl_fit (HKB.out.rel _ (getD_mem' (by have := HQR.out; have := HLR.out; omega)) y hy) (show na + nb ≤ 64 by have := HKK.out; omega)).1) hnr8
    · have HE := Lib.hid (unionE_b hza hzb)
      have hz1 : (chkM b != 0) = true := by simpa using hzb
      clear hza
      generalize chkM b = cm at *
      clear hzb
      generalize hq1 : a.val.length = va at *
      generalize hq2 : a.rel.length = ra at *
      generalize hq3 : b.val.length = vb at *
      generalize hq4 : b.rel.length = rb at *
      clear hq1 hq2 hq3 hq4
      go_enter Tryd.func23, Tryd.ntmps23
      go_wp2_with fail
      refine (HCA.out _ HR.out.below).mono ?_
      rintro e w2 ⟨rfl, hb2⟩
      have HR2 := Lib.hid (HR.out.keep hb2)
      clear hb2
      have g0 := HR2.out.boxB.c0
      have g1 := HR2.out.boxB.c1
      have g2 := HR2.out.boxB.c2
      go_wp2_with fail
      refine (HCB.out _ HR2.out.below).mono ?_
      rintro e w3 ⟨rfl, hb3⟩
      have HRX := Lib.hid (HR2.out.keep hb3)
      clear hb3 g0 g1 g2
      have y0 := HRX.out.res.c0
      have y1 := HRX.out.res.c1
      have y2 := HRX.out.res.c2
      have f0 := HRX.out.res.free 0
      have f1 := HRX.out.res.free 1
      have f2 := HRX.out.res.free 2
      go_wp2
      have HZ3 := Lib.hid (res_fin HRX.out.res HRX.out.below 0 (.slice none 0 0) (.slice none 0 0))
      clear y0 y1 y2 f0 f1 f2
      generalize (((w3.setCell ⟨w.heap.size + 1 + 1, 0, none⟩ (.int .i64 0)).setCell ⟨w.heap.size + 1 + 1, 1, none⟩ (.slice none 0 0)).setCell ⟨w.heap.size + 1 + 1, 2, none⟩ (.slice none 0 0)) = w7 at *
      (try simp only [Exit.inBlock, Exit.then])
      refine bodyPost_ret (ret_cellT rfl _ _ (w.heap.size + 1 + 1) _ _ _ _ rfl HZ3.out.1 Tryd.underlying25 rfl (by kernel_rfl)) rfl ?_
      exact ⟨_, by rw [HE.out.1]; rfl, by rw [HE.out.2]; exact MoF.zero _ _, HZ3.out.2.1⟩
  · have HE := Lib.hid (unionE_a (b := b) hza)
    have hz1 : (chkM a != 0) = true := by simpa using hza
    generalize chkM a = cm at *
    clear hza
    generalize hq1 : a.val.length = va at *
    generalize hq2 : a.rel.length = ra at *
    generalize hq3 : b.val.length = vb at *
    generalize hq4 : b.rel.length = rb at *
    clear hq1 hq2 hq3 hq4
    go_enter Tryd.func23, Tryd.ntmps23
    go_wp2_with fail
    refine (HCA.out _ HR.out.below).mono ?_
    rintro e w2 ⟨rfl, hb2⟩
    have HRX := Lib.hid (HR.out.keep hb2)
    clear hb2
    have y0 := HRX.out.res.c0
    have y1 := HRX.out.res.c1
    have y2 := HRX.out.res.c2
    have f0 := HRX.out.res.free 0
    have f1 := HRX.out.res.free 1
    have f2 := HRX.out.res.free 2
    go_wp2
    have HZ3 := Lib.hid (res_fin HRX.out.res HRX.out.below 0 (.slice none 0 0) (.slice none 0 0))
    clear y0 y1 y2 f0 f1 f2
    generalize (((w2.setCell ⟨w.heap.size + 1 + 1, 0, none⟩ (.int .i64 0)).setCell ⟨w.heap.size + 1 + 1, 1, none⟩ (.slice none 0 0)).setCell ⟨w.heap.size + 1 + 1, 2, none⟩ (.slice none 0 0)) = w7 at *
    (try simp only [Exit.inBlock, Exit.then])
    refine bodyPost_ret (ret_cellT rfl _ _ (w.heap.size + 1 + 1) _ _ _ _ rfl HZ3.out.1 Tryd.underlying25 rfl (by kernel_rfl)) rfl ?_
    exact ⟨_, by rw [HE.out.1]; rfl, by rw [HE.out.2]; exact MoF.zero _ _, HZ3.out.2.1⟩
end Go.Proofs.YtofclgapgjcflaaDoor
