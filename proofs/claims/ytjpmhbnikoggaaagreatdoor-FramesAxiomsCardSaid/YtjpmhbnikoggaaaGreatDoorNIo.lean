/- Layer 6: texts joined: Fr20 Fr21 Fr22 Fr23 Fr24 Fr25. -/
import Derived.Test.YtjpmhbnikoggaaaGreatDoorNIn
/- Layer 15: the example of the law. -/
namespace Go.Proofs.YtjpmhbnikoggaaaGreatDoor
open Go.RowKit Go.Proofs.Ws
set_option maxRecDepth 100000
theorem words_of {l : List Nat} (h : l.all (fun x => decide (x < 18446744073709551616)) = true) : Words l := fun x hx => of_decide_eq_true (List.all_eq_true.1 h x hx)
def exF : Mo := ⟨3, [], [[2, 4, 0]]⟩
theorem exF_at {W : World} {b1 b2 : Nat} (h1 : HoldsU W b1 [2, 4, 0]) (h2 : HoldsV W b2 [.slice (some ⟨b1, 0, none⟩) 3 3]) :
    MoR W W.heap.size (.agg #[.int .i64 3, .slice none 0 0, .slice (some ⟨b2, 0, none⟩) 1 1]) exF := by
  refine ⟨⟨none, 0, some ⟨b2, 0, none⟩, 1, rfl, Reads.none_, ⟨rfl, [.slice (some ⟨b1, 0, none⟩) 3 3], ⟨rfl, fun _ => ⟨_, rfl, h2.lt, fun j u hu => ?_⟩⟩, fun j hj => ?_⟩⟩, ⟨by unfold maxLen; decide, by unfold maxLen; decide⟩, ⟨by decide, by decide⟩, fun x hx => absurd hx (by simp [exF]), fun r hr => ?_⟩
  · have hj : j < 1 := (List.getElem?_eq_some_iff.1 hu).1
    rw [addr0, h2.cell j hj, List.getD_eq_getElem?_getD, hu]; rfl
  · obtain rfl : j = 0 := by have : j < 1 := hj; omega
    exact ⟨some ⟨b1, 0, none⟩, 3, rfl, h1.reads, by show (3 : Nat) ≤ maxLen; unfold maxLen; decide⟩
  · rw [List.mem_singleton.1 hr]
    exact words_of (by decide)
theorem three_at (w : World) (o0 o1 o2 : Array Value) (t0 t1 t2 : TypeId) :
    (((w.alloc (.cells o0 t0)).alloc (.cells o1 t1)).alloc (.cells o2 t2)).heap[w.heap.size]? = some (.cells o0 t0) ∧
    (((w.alloc (.cells o0 t0)).alloc (.cells o1 t1)).alloc (.cells o2 t2)).heap[w.heap.size + 1]? = some (.cells o1 t1) ∧
    (((w.alloc (.cells o0 t0)).alloc (.cells o1 t1)).alloc (.cells o2 t2)).heap[w.heap.size + 1 + 1]? = some (.cells o2 t2) ∧
    Below w.heap.size w (((w.alloc (.cells o0 t0)).alloc (.cells o1 t1)).alloc (.cells o2 t2)) := by
  have sz : ∀ (W : World) (o : Obj), (W.alloc o).heap.size = W.heap.size + 1 := fun W o => by simp
  have new : ∀ (W : World) (o : Obj) (k : Nat), k = W.heap.size → (W.alloc o).heap[k]? = some o := fun W o k hk => by subst hk; exact heap_alloc_new W o
  have keep : ∀ (W : World) (o : Obj) (k : Nat) (x : Obj), W.heap[k]? = some x → (W.alloc o).heap[k]? = some x := fun W o k x h => (Below.heap_alloc W o k (Array.getElem?_eq_some_iff.1 h).1).trans h
  refine ⟨?_, ?_, ?_, ?_⟩
  · exact keep _ _ _ _ (keep _ _ _ _ (new _ _ _ rfl))
  · exact keep _ _ _ _ (new _ _ _ (by simp only [sz]))
  · exact new _ _ _ (by simp only [sz])
  · exact (((Below.refl _ w).alloc (Nat.le_refl _) _).alloc (by simp) _).alloc (by simp; omega) _
theorem ret_cellF {P : Program} {fn : Func} {p : Tmp} {ty : TypeId} (h : fn.results = #[.cell p ty]) (tmps : Array Value) (w : World) (g : Nat) (t : TypeId) (cs : Array Value) (fr : Nat × Nat) (d : TypeDesc)
    (hp : tmps.getD p undef = .pointer (some ⟨g, 0, none⟩)) (hg : w.heap[g]? = some (.cells cs t fr))
    (hu : P.underlying ty = some d) (hd : (match d with | .struct _ | .array _ _ => true | _ => false) = true) (hi : (P.info? ty).map (·.size) = some cs.size) :
    (results fn tmps).run P w = .ok (.agg cs) w := by
  rw [results_cell h, hp]
  simp [asAddr, Result.andThen, run_loadVar_row w g t ty cs fr d hg hu hd hi]
set_option maxHeartbeats 4000000 in
theorem example_any (w : World) :
    Calls Tryz.prog 32 #[] w fun e w' => ∃ v, e = .returned v ∧ MoR w' w'.heap.size v exF ∧ Below w.heap.size w w' := by
  obtain ⟨k0, k1, k2, kb⟩ := three_at w #[.int .i64 3, .slice none 0 0, .slice (some ⟨w.heap.size + 1 + 1, 0, none⟩) 1 1] #[.int .u64 2, .int .u64 4, .int .u64 0] #[.slice (some ⟨w.heap.size + 1, 0, none⟩) 3 3] 25 37 22
  have HK := Lib.hid (And.intro k0 (And.intro k1 (And.intro k2 kb)))
  clear k0 k1 k2 kb
  go_enter Tryz.func32, Tryz.ntmps32
  go_wp2
  (try simp only [Exit.inBlock, Exit.then])
  refine bodyPost_ret (ret_cellF rfl _ _ w.heap.size _ _ _ _ rfl HK.out.1 Tryz.underlying25 rfl (by kernel_rfl)) rfl ?_
  exact ⟨_, rfl, exF_at HK.out.2.1 HK.out.2.2.1, HK.out.2.2.2⟩
theorem exF_ok {g : Int} (h : proE g = 0) : ckE exF g = 0 := by
  have h0 : chkM exF = 0 := by decide
  unfold ckE
  rw [if_pos h0]; exact h
theorem exF_closed {g : Int} {c : Mo} {C : List Nat} (h : ClosM exF g c) (hg : proE g = 0) (hC : ClosR 3 g [2, 4, 0] C) : c.rel = [C] := by
  unfold ClosM at h
  rw [if_pos (exF_ok hg)] at h
  obtain ⟨_, _, h3, h4⟩ := h
  have h5 : ClosR 3 g [2, 4, 0] (c.rel.getD 0 []) := h4 0 (by decide)
  have h6 := h5.unique hC
  match hr : c.rel, h3, h6 with
  | [D], _, h6 => exact congrArg (fun x => [x]) h6
set_option maxHeartbeats 4000000 in
theorem closes_any (g : Int) (x y z : Nat) (w : World) (hg : proE g = 0) (hC : ClosR 3 g [2, 4, 0] [x, y, z]) (hT : Tab w) :
    Calls Tryz.prog 34 #[.int .i64 g, .int .u64 (x : Int), .int .u64 (y : Int), .int .u64 (z : Int)] w fun e w' => e = .returned (.bool true) ∧ Below w.heap.size w w' := by
  have HX := Lib.hid (example_any w)
  have HT := Lib.hid hT
  have HC := Lib.hid hC
  have HG := Lib.hid hg
  have hck := exF_ok hg
  clear hT hC hg
  go_enter Tryz.func34, Tryz.ntmps34
  go_wp2_with fail
  refine (HX.out).mono ?_
  rintro e w1 ⟨v, rfl, hm, hb⟩
  have HB := Lib.hid hb
  have HP := Lib.hid (pClose_any exF v g w1 hm (HT.out.below hb))
  rw [hck] at HP
  clear hm hb
  go_wp2_with fail
  refine (HP.out).mono ?_
  rintro e w2 ⟨v2, c, rfl, hmo, hcm, hb⟩
  have hrel := exF_closed hcm HG.out HC.out
  have HB2 := Lib.hid (HB.out.trans (hb.mono HB.out.size))
  obtain ⟨A1, c1, A2, c2, rfl, hv, hr⟩ := hmo.self.ex
  have hrl : c.rel.length = 1 := by rw [hrel]; rfl
  rw [hrl] at hr
  obtain ⟨ad, Aj, cj, rfl, hbl, hcc, hrj, hlj⟩ := hr.at_ (k := 0) (by decide)
  have e0 : c.rel.getD 0 [] = [x, y, z] := by rw [hrel]; rfl
  rw [e0] at hcc hrj hlj
  rw [hrl]
  have HH := Lib.hid (And.intro hcc (And.intro hrj hbl))
  clear hmo hcm hb hv hr hcc hrj hlj hbl hrel hrl e0
  generalize c.n = cn at *
  generalize c.val.length = cv at *
  have hc : (w2.alloc (.cells #[.int .i64 cn, .slice A1 cv c1, .slice (some ad) 1 c2] 25)).cell? ad = some (.slice Aj 3 cj) := by
    have h := HH.out.1
    rw [add_nil] at h
    exact (((Below.refl w2.heap.size w2).alloc (Nat.le_refl _) _).cell HH.out.2.2).trans h
  have HB3 : Hid (Below w2.heap.size w2 (w2.alloc (.cells #[.int .i64 cn, .slice A1 cv c1, .slice (some ad) 1 c2] 25))) := Lib.hid ((Below.refl w2.heap.size w2).alloc (Nat.le_refl _) _)
  have HB4 : Hid (Below w2.heap.size w2 ((w2.alloc (.cells #[.int .i64 cn, .slice A1 cv c1, .slice (some ad) 1 c2] 25)).alloc (.cells #[.int .u64 (x : Int), .int .u64 (y : Int), .int .u64 (z : Int)] 37))) := Lib.hid (HB3.out.alloc (by simp) _)
  have HS : Hid (Calls Tryz.prog 77 #[.slice Aj 3 cj, .slice (some ⟨w2.heap.size + 1, 0, none⟩) 3 3] ((w2.alloc (.cells #[.int .i64 cn, .slice A1 cv c1, .slice (some ad) 1 c2] 25)).alloc (.cells #[.int .u64 (x : Int), .int .u64 (y : Int), .int .u64 (z : Int)] 37)) fun e w' => e = .returned (.bool true) ∧ Below w2.heap.size w2 w') := Lib.hid (by
    have hU : HoldsU ((w2.alloc (.cells #[.int .i64 cn, .slice A1 cv c1, .slice (some ad) 1 c2] 25)).alloc (.cells #[.int .u64 (x : Int), .int .u64 (y : Int), .int .u64 (z : Int)] 37)) (w2.heap.size + 1) [x, y, z] := by
      have h := heap_alloc_new (w2.alloc (.cells #[.int .i64 cn, .slice A1 cv c1, .slice (some ad) 1 c2] 25)) (.cells #[.int .u64 (x : Int), .int .u64 (y : Int), .int .u64 (z : Int)] 37)
      have hs : (w2.alloc (.cells #[.int .i64 cn, .slice A1 cv c1, .slice (some ad) 1 c2] 25)).heap.size = w2.heap.size + 1 := by simp
      rw [hs] at h
      exact h
    have h := same_any [x, y, z] [x, y, z] Aj (some ⟨w2.heap.size + 1, 0, none⟩) 3 3 cj 3 _ _ ((HH.out.2.1.below HB4.out).more HB4.out.size) hU.reads (by unfold maxLen; omega) (by unfold maxLen; omega)
    rw [decide_eq_true rfl] at h
    exact h.mono fun e w' h => ⟨h.1, by obtain ⟨_, q, rfl⟩ := h; exact below_drewN HB4.out q⟩)
  generalize hX : (w2.alloc (.cells #[.int .i64 cn, .slice A1 cv c1, .slice (some ad) 1 c2] 25)) = w3 at hc HS
  subst hX
  go_wp2_with fail
  refine (HS.out).mono ?_
  rintro e w4 ⟨rfl, hb4⟩
  have HB9 := Lib.hid (HB2.out.trans (hb4.mono HB2.out.size))
  clear hb4
  go_wp2
  go_ret
  exact ⟨rfl, HB9.out⟩
end Go.Proofs.YtjpmhbnikoggaaaGreatDoor
/- Layer 15: Counter in one contract; the law's counter. -/
namespace Go.Proofs.YtjpmhbnikoggaaaGreatDoor
open Go.RowKit Go.Proofs.Ws
set_option maxRecDepth 100000
theorem pCnt_any (l : List Nat) (A : Option Addr) (n c : Nat) (p : Int) (w : World) (hR : Reads w w.heap.size 1 A n (us l)) (hw : Words l) (hm : n ≤ maxLen) (hT : Tab w) :
    Calls Tryz.prog 17 #[.slice A n c, .int .i64 p] w (GivesC n p l w) := by
  by_cases h0 : relErr n l = 0
  · by_cases hp : p < 1 ∨ 5 < p
    · exact cntNo_any l A n c w hR hw hm p h0 hp
    · have hc : p = 1 ∨ p = 2 ∨ p = 3 ∨ p = 4 ∨ p = 5 := by omega
      rcases hc with rfl | rfl | rfl | rfl | rfl
      · exact cnt1_any l A n c w hR hw hm hT h0
      · exact cnt2_any l A n c w hR hw hm hT h0
      · exact cnt3_any l A n c w hR hw hm hT h0
      · exact cnt4_any l A n c w hR hw hm hT h0
      · exact cnt5_any l A n c w hR hw hm hT h0
  · exact cntBad_any l A n c w hR hw hm p h0
theorem CntV.hit {n : Nat} {p : Int} {l x : List Nat} {a s r : Int} (h : CntV n p l a s r) (h0 : relErr n l = 0) (hl : l.length = n) (hp : 1 ≤ p ∧ p ≤ 5) (hx : WitP n p l x) :
    a = ((x.getD 0 0 : Nat) : Int) ∧ s = ((setV p l x : Nat) : Int) ∧ r = 0 := by
  rcases h with h | h | h | h
  · exact absurd h0 h.1
  · omega
  · have h1 := (lack_iff (relErr_sh h0 hl) hp).1 h.2.2.1 x hx.dig
    rw [hx.shows] at h1; cases h1
  · obtain ⟨_, _, _, y, hy, h1, h2, h3⟩ := h
    obtain rfl := hy.unique hx
    exact ⟨h1, h2, h3⟩
set_option maxHeartbeats 4000000 in
theorem counter_any (p a : Int) (s : Nat) (x : List Nat) (w : World) (hp : 1 ≤ p ∧ p ≤ 5) (hx : WitP 3 p [2, 4, 0] x) (ha : a = ((x.getD 0 0 : Nat) : Int)) (hs : s = setV p [2, 4, 0] x) (hT : Tab w) :
    Calls Tryz.prog 35 #[.int .i64 p, .int .i64 a, .int .u64 (s : Int)] w fun e w' => e = .returned (.bool true) ∧ Below w.heap.size w w' := by
  have HX := Lib.hid (example_any w)
  have HT := Lib.hid hT
  have HP := Lib.hid (fun (v1 v2 v3 : Int) (h : CntV 3 p [2, 4, 0] v1 v2 v3) => h.hit (by decide) rfl hp hx)
  subst ha hs
  clear hT hx hp
  go_enter Tryz.func35, Tryz.ntmps35
  go_wp2_with fail
  refine (HX.out).mono ?_
  rintro e w1 ⟨v, rfl, hm, hb⟩
  have HB := Lib.hid hb
  obtain ⟨A1, c1, A2, c2, rfl, hv, hr⟩ := hm.ex
  obtain ⟨ad, Aj, cj, rfl, hbl, hcc, hrj, hlj⟩ := hr.at_ (k := 0) (by decide)
  rw [add_nil] at hcc
  change w1.cell? ad = some (.slice Aj 3 cj) at hcc
  change Reads w1 w1.heap.size 1 Aj 3 (us [2, 4, 0]) at hrj
  rw [show exF.rel.length = 1 from rfl, show exF.val.length = 0 from rfl, show exF.n = 3 from rfl]
  have HC := Lib.hid (pCnt_any [2, 4, 0] Aj 3 cj p w1 hrj (words_of (by decide)) (by unfold maxLen; decide) (HT.out.below hb))
  unfold GivesC at HC
  clear hm hb hv hr hrj hbl hlj
  have hfd : ∀ w : World, (Instr.field 25 (.agg #[.int .i64 3, .slice A1 0 c1, .slice (some ad) 1 c2]) 2).run Tryz.prog w = .ok (.slice (some ad) 1 c2) w := fun w => by kernel_rfl
  generalize x.getD 0 0 = x0 at *
  generalize setV p [2, 4, 0] x = sv at *
  go_wp2_with fail
  refine (HC.out).mono ?_
  rintro e w2 ⟨⟨r1, r2, r3, rfl, hcv⟩, hb⟩
  obtain ⟨rfl, rfl, rfl⟩ := HP.out _ _ _ hcv
  have HB2 := Lib.hid (HB.out.trans (hb.mono HB.out.size))
  clear hb hcv hcc
  go_wp2
  go_ret
  exact ⟨ret_bool (by simp), HB2.out⟩
end Go.Proofs.YtjpmhbnikoggaaaGreatDoor
/- Layer 15: equality of lists of defects by the reference. -/
namespace Go.Proofs.YtjpmhbnikoggaaaGreatDoor
open Go.RowKit Go.Proofs.Ws
set_option maxRecDepth 100000
def df0 : Df := ⟨0, 0, []⟩
theorem dcs_at : ∀ (ds : List Df) (gs : List (Nat × Nat)) (k : Nat), gs.length = ds.length → k < ds.length →
    (dcs ds gs)[k * 3]? = some (.int .i64 ((ds.getD k df0).agent : Int)) ∧ (dcs ds gs)[k * 3 + 1]? = some (.int .i64 (ds.getD k df0).prop) ∧
    (dcs ds gs)[k * 3 + 2]? = some (.slice (some ⟨(gs.getD k (0, 0)).1, 0, none⟩) (ds.getD k df0).ws.length (gs.getD k (0, 0)).2)
  | [], _, _, _, h => absurd h (by simp)
  | _ :: _, [], _, h, _ => by simp at h
  | d :: ds, g :: gs, 0, _, _ => ⟨rfl, rfl, rfl⟩
  | d :: ds, g :: gs, k + 1, h, hk => by
    have ih := dcs_at ds gs k (by simpa using h) (by simpa using hk)
    rw [show (k + 1) * 3 = k * 3 + 3 by omega, show k * 3 + 3 + 1 = k * 3 + 1 + 3 by omega, show k * 3 + 3 + 2 = k * 3 + 2 + 3 by omega]
    exact ih
theorem DfS.at_ {W : World} {base k : Nat} {v : Value} {ds : List Df} (h : DfS W base v ds) (hk : k < ds.length) :
    ∃ b c g q, v = .slice (some ⟨b, 0, none⟩) ds.length c ∧ b < W.heap.size ∧ W.cell? ⟨b, k * 3, none⟩ = some (.int .i64 ((ds.getD k df0).agent : Int)) ∧ W.cell? ⟨b, k * 3 + 1, none⟩ = some (.int .i64 (ds.getD k df0).prop) ∧
    W.cell? ⟨b, k * 3 + 2, none⟩ = some (.slice (some ⟨g, 0, none⟩) (ds.getD k df0).ws.length q) ∧ IntB W g (ds.getD k df0).ws := by
  obtain ⟨A, c, gs, rfl, hg, ho, hi⟩ := h.ex
  rcases ho.2 with ⟨he, hn⟩ | ⟨b, cap, cur, hv, hb, hh, _⟩
  · omega
  · injection hv with hA _ hc
    subst hA hc
    have hat := dcs_at ds gs k hg hk
    have hcl := ho.cells (g := b) rfl
    refine ⟨b, c, (gs.getD k (0, 0)).1, (gs.getD k (0, 0)).2, rfl, (Array.getElem?_eq_some_iff.1 hh).1, ?_, ?_, ?_, (hi k hk).2⟩
    · have := hcl _ _ hat.1; rwa [addr0] at this
    · have := hcl _ _ hat.2.1; rwa [addr0] at this
    · have := hcl _ _ hat.2.2; rwa [addr0] at this
theorem DfS.form {W : World} {base : Nat} {v : Value} {ds : List Df} (h : DfS W base v ds) : ∃ A c, v = .slice A ds.length c := by
  obtain ⟨A, c, gs, e, _⟩ := h.ex
  exact ⟨A, c, e⟩
theorem df_eq_at {a b : List Df} (hl : a.length = b.length) (h : ∀ j, j < a.length → a.getD j df0 = b.getD j df0) : a = b := by
  apply List.ext_getElem hl
  intro j h1 h2
  have := h j h1
  rw [List.getD_eq_getElem?_getD, List.getD_eq_getElem?_getD, List.getElem?_eq_getElem h1, List.getElem?_eq_getElem h2] at this
  exact this
theorem getD_memF {P : List Df} {j : Nat} (h : j < P.length) : P.getD j df0 ∈ P := by
  rw [List.getD_eq_getElem?_getD, List.getElem?_eq_getElem h]; exact List.getElem_mem h
theorem nl_eq_at {a b : List Nat} (hl : a.length = b.length) (h : ∀ j, j < a.length → a.getD j 0 = b.getD j 0) : a = b := by
  apply List.ext_getElem hl
  intro j h1 h2
  have := h j h1
  rw [List.getD_eq_getElem?_getD, List.getD_eq_getElem?_getD, List.getElem?_eq_getElem h1, List.getElem?_eq_getElem h2] at this
  exact this
theorem IntB.cell {W : World} {g : Nat} {x : List Nat} (h : IntB W g x) {j : Nat} (hj : j < x.length) : W.cell? ⟨g, j, none⟩ = some (.int .i64 ((x.getD j 0 : Nat) : Int)) := by
  obtain ⟨q, h⟩ := h
  rw [Lib.cell_of_heap h, List.getElem?_toArray, List.getElem?_append_left (by rw [iv_length]; exact hj)]
  unfold iv
  rw [List.getElem?_map, List.getElem?_eq_getElem hj, List.getD_eq_getElem?_getD, List.getElem?_eq_getElem hj]
  rfl
set_option maxHeartbeats 8000000 in
theorem rSameD_any (a b : List Df) (lo lo2 : Nat) (v v2 : Value) (w : World) (ha : DfS w lo v a) (hb : DfS w lo2 v2 b) (hn : a.length ≤ 1000) (hn2 : b.length ≤ 1000) (hw : ∀ d ∈ a, d.ws.length ≤ 1000) (hw2 : ∀ d ∈ b, d.ws.length ≤ 1000) :
    Calls Tryz.prog 33 #[v, v2] w fun e w' => e = .returned (.bool (qB (a = b))) ∧ Below w.heap.size w w' := by
  have HA := Lib.hid ha
  have HB := Lib.hid hb
  have HW := Lib.hid hw
  have HW2 := Lib.hid hw2
  obtain ⟨A, c, e1⟩ := ha.form
  obtain ⟨A2, c2, e2⟩ := hb.form
  subst e1 e2
  clear ha hb hw hw2
  by_cases hnm : a.length = b.length
  · have HLE := Lib.hid hnm
    have hne : ((a.length : Int) != (b.length : Int)) = false := by rw [hnm]; simp
    generalize hna : a.length = n at *
    generalize hnb : b.length = n2 at *
    subst hnm
    have HNA := Lib.hid hna
    have HNB := Lib.hid hnb
    clear hna hnb
    go_enter Tryz.func33, Tryz.ntmps33
    go_wp2
    go_loopw [5, 6] (fun i _ wr => ∃ k : Nat, k ≤ n ∧ i = .int .i64 k ∧ Hid (∀ j, j < k → a.getD j df0 = b.getD j df0) ∧ Hid (Below w.heap.size w wr)) (fun i _ _ => n - (intOf i).toNat)
    case atStart => exact ⟨0, Nat.zero_le _, rfl, Lib.hid (fun j hj => absurd hj (by omega)), Lib.hid (Below.refl _ _)⟩
    case round =>
      obtain ⟨k, hk, rfl, HF, HBB⟩ := hrel
      by_cases hlt : k < n
      · obtain ⟨g1, q1, g3, q3, ev, hb1, hm0, hm1, hm2, hmi⟩ := HA.out.at_ (k := k) (by have := HNA.out; omega)
        obtain ⟨g2, q2, g4, q4, ev2, hb2, hr0, hr1, hr2, hri⟩ := HB.out.at_ (k := k) (by have := HNB.out; omega)
        injection ev with ev e9 e8
        injection ev2 with ev2 e7 e6
        subst ev ev2 e8 e6
        clear e9 e7
        obtain ⟨x, hx⟩ : ∃ x, a.getD k df0 = x := ⟨_, rfl⟩
        obtain ⟨y, hy⟩ : ∃ y, b.getD k df0 = y := ⟨_, rfl⟩
        rw [hx] at hm0 hm1 hm2 hmi
        rw [hy] at hr0 hr1 hr2 hri
        have HX := Lib.hid hx
        have HY := Lib.hid hy
        have HM : Hid (∀ W, Below w.heap.size w W → W.cell? ⟨g1, k * 3, none⟩ = some (.int .i64 (x.agent : Int)) ∧ W.cell? ⟨g1, k * 3 + 1, none⟩ = some (.int .i64 x.prop) ∧ W.cell? ⟨g1, k * 3 + 2, none⟩ = some (.slice (some ⟨g3, 0, none⟩) x.ws.length q3) ∧
          W.cell? ⟨g2, k * 3, none⟩ = some (.int .i64 (y.agent : Int)) ∧ W.cell? ⟨g2, k * 3 + 1, none⟩ = some (.int .i64 y.prop) ∧ W.cell? ⟨g2, k * 3 + 2, none⟩ = some (.slice (some ⟨g4, 0, none⟩) y.ws.length q4)) :=
          Lib.hid (fun W hb => ⟨(hb.cell (p := ⟨g1, k * 3, none⟩) hb1).trans hm0, (hb.cell (p := ⟨g1, k * 3 + 1, none⟩) hb1).trans hm1, (hb.cell (p := ⟨g1, k * 3 + 2, none⟩) hb1).trans hm2, (hb.cell (p := ⟨g2, k * 3, none⟩) hb2).trans hr0, (hb.cell (p := ⟨g2, k * 3 + 1, none⟩) hb2).trans hr1, (hb.cell (p := ⟨g2, k * 3 + 2, none⟩) hb2).trans hr2⟩)
        have HI1 := Lib.hid hmi
        have HI2 := Lib.hid hri
        have hxl : x.ws.length ≤ 1000 := HW.out x (by rw [← hx]; exact getD_memF (by have := HNA.out; omega))
        have hyl : y.ws.length ≤ 1000 := HW2.out y (by rw [← hy]; exact getD_memF (by have := HNB.out; omega))
        have HNE : Hid (x ≠ y → qB (a = b) = false) := Lib.hid (fun h => qB_false (fun e => h (by rw [← HX.out, ← HY.out, e])))
        have HF2 : Hid (x = y → ∀ j, j < k + 1 → a.getD j df0 = b.getD j df0) := Lib.hid (fun he j hj => by
          by_cases e : j = k
          · subst e; rw [HX.out, HY.out]; exact he
          · exact HF.out j (by omega))
        clear hm0 hm1 hm2 hmi hr0 hr1 hr2 hri hx hy hb1 hb2 HF
        obtain ⟨m0, m1, m2, r0, r1, r2⟩ := HM.out wr HBB.out
        by_cases h1 : x.agent = y.agent
        · have d1 : ((x.agent : Int) != (y.agent : Int)) = false := by rw [h1]; simp
          by_cases h2 : x.prop = y.prop
          · have d2 : (x.prop != y.prop) = false := by rw [h2]; simp
            by_cases h3 : x.ws.length = y.ws.length
            · have d3 : ((x.ws.length : Int) != (y.ws.length : Int)) = false := by rw [h3]; simp
              have HEQ : Hid ((∀ j, j < x.ws.length → x.ws.getD j 0 = y.ws.getD j 0) → x = y) := Lib.hid (fun h => by
                obtain ⟨xa, xp, xw⟩ := x
                obtain ⟨ya, yp, yw⟩ := y
                dsimp only at h1 h2 h3 h
                rw [h1, h2, nl_eq_at h3 h])
              have HL3 := Lib.hid h3
              have HR1 : Hid (∀ W, Below w.heap.size w W → ∀ j, j < x.ws.length → W.cell? ⟨g3, j, none⟩ = some (.int .i64 ((x.ws.getD j 0 : Nat) : Int)) ∧ W.cell? ⟨g4, j, none⟩ = some (.int .i64 ((y.ws.getD j 0 : Nat) : Int))) :=
                Lib.hid (fun W hb j hj => ⟨(hb.cell (p := ⟨g3, j, none⟩) HI1.out.lt).trans (HI1.out.cell hj), (hb.cell (p := ⟨g4, j, none⟩) HI2.out.lt).trans (HI2.out.cell (by omega))⟩)
              clear h1 h2
              generalize x.agent = a1 at *
              generalize y.agent = a2 at *
              generalize x.prop = p1 at *
              generalize y.prop = p2 at *
              generalize y.ws.length = l2 at *
              subst h3
              generalize hl1 : x.ws.length = l1 at *
              have HL1 := Lib.hid hl1
              clear hl1
              go_wp2
              go_quiet (fail)
              go_wp2
              have HB6 := Lib.hid (below_drewN HBB.out nq)
              generalize wr.drewN nq = w6 at *
              clear m0 m1 m2 r0 r1 r2 d1 d2 d3
              go_wp2
              rename World => wz
              go_loopw [6] (fun i wi => ∃ j : Nat, j ≤ l1 ∧ i = .int .i64 (j : Int) ∧ Hid (∀ t, t < j → x.ws.getD t 0 = y.ws.getD t 0) ∧ Hid (Below w.heap.size w wi)) (fun i _ => l1 - (intOf i).toNat)
              case atStart => exact ⟨0, Nat.zero_le _, rfl, Lib.hid (fun t ht => absurd ht (by omega)), HB6⟩
              case round =>
                obtain ⟨j, hj, rfl, HT, HBI⟩ := hrel
                obtain ⟨_, _, m2, _, _, r2⟩ := HM.out wr HBI.out
                by_cases hj1 : j < l1
                · obtain ⟨u1, u2⟩ := HR1.out wr HBI.out j hj1
                  by_cases he : x.ws.getD j 0 = y.ws.getD j 0
                  · have dE : (((x.ws.getD j 0 : Nat) : Int) != ((y.ws.getD j 0 : Nat) : Int)) = false := by rw [he]; simp
                    have HT2 : Hid (∀ t, t < j + 1 → x.ws.getD t 0 = y.ws.getD t 0) := Lib.hid (fun t ht => by
                      by_cases e : t = j
                      · subst e; exact he
                      · exact HT.out t (by omega))
                    clear he
                    generalize x.ws.getD j 0 = e1 at *
                    generalize y.ws.getD j 0 = e2 at *
                    go_wp2
                    go_quiet (fail)
                    go_wp2
                    go_roundw
                    case rel => exact ⟨j + 1, by omega, by go_num, HT2, Lib.hid (below_drewN HBI.out _)⟩
                    case measure => simp [intOf]; omega
                  · have dE : (((x.ws.getD j 0 : Nat) : Int) != ((y.ws.getD j 0 : Nat) : Int)) = true := by rw [bne_iff_ne]; omega
                    have HE := Lib.hid (HNE.out (fun e => he (by rw [e])))
                    clear he
                    generalize x.ws.getD j 0 = e1 at *
                    generalize y.ws.getD j 0 = e2 at *
                    go_wp2
                    go_quiet (fail)
                    go_wp2
                    go_ret
                    exact ⟨ret_bool HE.out.symm, below_drewN HBI.out _⟩
                · obtain rfl : l1 = j := by omega
                  go_wp2
                  go_roundw
                  case rel =>
                    exact ⟨k + 1, by omega, by go_num, Lib.hid (HF2.out (HEQ.out (fun t ht => HT.out t ht))), HBI⟩
                  case measure => simp [intOf]; omega
            · have d3 : ((x.ws.length : Int) != (y.ws.length : Int)) = true := by rw [bne_iff_ne]; omega
              have HE := Lib.hid (HNE.out (fun e => h3 (by rw [e])))
              clear h1 h2 h3 HF2
              go_wp2
              go_quiet (fail)
              go_wp2
              go_ret
              exact ⟨ret_bool HE.out.symm, below_drewN HBB.out _⟩
          · have d2 : (x.prop != y.prop) = true := by rw [bne_iff_ne]; exact h2
            have HE := Lib.hid (HNE.out (fun e => h2 (by rw [e])))
            clear h1 h2 HF2
            go_wp2
            go_quiet (fail)
            go_wp2
            go_ret
            exact ⟨ret_bool HE.out.symm, below_drewN HBB.out _⟩
        · have d1 : ((x.agent : Int) != (y.agent : Int)) = true := by rw [bne_iff_ne]; omega
          have HE := Lib.hid (HNE.out (fun e => h1 (by rw [e])))
          clear h1 HF2
          go_wp2
          go_quiet (fail)
          go_wp2
          go_ret
          exact ⟨ret_bool HE.out.symm, below_drewN HBB.out _⟩
      · obtain rfl : n = k := by omega
        have HE : Hid (qB (a = b) = true) := Lib.hid ((qB_iff _).2 (df_eq_at (by rw [HNA.out, HNB.out]) (fun j hj => HF.out j (by have := HNA.out; omega))))
        go_wp2
        go_ret
        exact ⟨ret_bool HE.out.symm, HBB.out⟩
  · have hne : ((a.length : Int) != (b.length : Int)) = true := by rw [bne_iff_ne]; omega
    have HE : Hid (qB (a = b) = false) := Lib.hid (qB_false (fun e => hnm (by rw [e])))
    generalize a.length = n at *
    generalize b.length = n2 at *
    clear hnm
    go_enter Tryz.func33, Tryz.ntmps33
    go_wp2
    go_ret
    exact ⟨ret_bool HE.out.symm, Below.refl _ _⟩
end Go.Proofs.YtjpmhbnikoggaaaGreatDoor
/- Layer 15: the examples as plain mathematics. -/
namespace Go.Proofs.YtjpmhbnikoggaaaGreatDoor
open Go.RowKit Go.Proofs.Ws
set_option maxRecDepth 100000
theorem le3 {l s : List Nat} (hl : Sh 3 l) (h : ∀ w v, w < 3 → v < 3 → bit l w v = true → bit s w v = true) : Le l s := fun w v e => h w v (bit_in hl e).1 (bit_in hl e).2 e
theorem le3F {l s : List Nat} (hl : Sh 3 l) (h : ∀ w v : Fin 3, bit l w v = true → bit s w v = true) : Le l s := le3 hl fun w v hw hv e => h ⟨w, hw⟩ ⟨v, hv⟩ e
theorem ptrans3 {l : List Nat} (hl : Sh 3 l) (h : ∀ w v u : Fin 3, bit l w v = true → bit l v u = true → bit l w u = true) : PTrans l := fun w v u e1 e2 =>
  h ⟨w, (bit_in hl e1).1⟩ ⟨v, (bit_in hl e1).2⟩ ⟨u, (bit_in hl e2).2⟩ e1 e2
theorem peucl3 {l : List Nat} (hl : Sh 3 l) (h : ∀ w v u : Fin 3, bit l w v = true → bit l w u = true → bit l v u = true) : PEucl l := fun w v u e1 e2 =>
  h ⟨w, (bit_in hl e1).1⟩ ⟨v, (bit_in hl e1).2⟩ ⟨u, (bit_in hl e2).2⟩ e1 e2
theorem sh3 {l : List Nat} (h : l.length = 3) (h2 : l.all (fun x => decide (x < 8)) = true) : Sh 3 l := ⟨h, fun x hx => of_decide_eq_true (List.all_eq_true.1 h2 x hx)⟩
theorem base3 {s : List Nat} (h : Le [2, 4, 0] s) : bit s 0 1 = true ∧ bit s 1 2 = true := ⟨h 0 1 (by decide), h 1 2 (by decide)⟩
theorem closS4 : ClosR 3 4 [2, 4, 0] [7, 6, 4] := by
  have hC : Sh 3 [7, 6, 4] := sh3 rfl (by decide)
  refine ⟨[7, 6, 4], ⟨hC, le3F (sh3 rfl (by decide)) (by decide), ⟨fun _ => by unfold PRefl; decide, fun _ => ptrans3 hC (by decide), fun h => absurd h (by decide)⟩, fun s hs hp hle => ?_⟩, rfl⟩
  obtain ⟨e01, e12⟩ := base3 hle
  have r0 := hp.1 (by decide) 0 (by decide)
  have r1 := hp.1 (by decide) 1 (by decide)
  have r2 := hp.1 (by decide) 2 (by decide)
  have e02 := hp.2.1 (by decide) _ _ _ e01 e12
  refine le3 hC fun w v hw hv h => ?_
  have hw : w = 0 ∨ w = 1 ∨ w = 2 := by omega
  have hv : v = 0 ∨ v = 1 ∨ v = 2 := by omega
  rcases hw with rfl | rfl | rfl <;> rcases hv with rfl | rfl | rfl <;> first | assumption | exact absurd h (by decide)
theorem closS5 : ClosR 3 6 [2, 4, 0] [7, 7, 7] := by
  have hC : Sh 3 [7, 7, 7] := sh3 rfl (by decide)
  refine ⟨[7, 7, 7], ⟨hC, le3F (sh3 rfl (by decide)) (by decide), ⟨fun _ => by unfold PRefl; decide, fun _ => ptrans3 hC (by decide), fun _ => peucl3 hC (by decide)⟩, fun s hs hp hle => ?_⟩, rfl⟩
  obtain ⟨e01, e12⟩ := base3 hle
  have r0 := hp.1 (by decide) 0 (by decide)
  have r1 := hp.1 (by decide) 1 (by decide)
  have r2 := hp.1 (by decide) 2 (by decide)
  have e02 := hp.2.1 (by decide) _ _ _ e01 e12
  have e10 := hp.2.2 (by decide) _ _ _ e01 r0
  have e21 := hp.2.2 (by decide) _ _ _ e12 r1
  have e20 := hp.2.1 (by decide) _ _ _ e21 e10
  refine le3 hC fun w v hw hv h => ?_
  have hw : w = 0 ∨ w = 1 ∨ w = 2 := by omega
  have hv : v = 0 ∨ v = 1 ∨ v = 2 := by omega
  rcases hw with rfl | rfl | rfl <;> rcases hv with rfl | rfl | rfl <;> first | assumption | exact absurd h (by decide)
theorem closKD : ClosR 3 1 [2, 4, 0] [2, 4, 4] := by
  refine ⟨[2, 4, 0], ⟨sh3 rfl (by decide), Le.refl _, ⟨fun h => absurd h (by decide), fun h => absurd h (by decide), fun h => absurd h (by decide)⟩, fun s hs hp hle => hle⟩, by decide⟩
theorem closKD45 : ClosR 3 5 [2, 4, 0] [6, 6, 6] := by
  have hC : Sh 3 [6, 6, 6] := sh3 rfl (by decide)
  refine ⟨[6, 6, 6], ⟨hC, le3F (sh3 rfl (by decide)) (by decide), ⟨fun h => absurd h (by decide), fun _ => ptrans3 hC (by decide), fun _ => peucl3 hC (by decide)⟩, fun s hs hp hle => ?_⟩, by decide⟩
  obtain ⟨e01, e12⟩ := base3 hle
  have e02 := hp.2.1 (by decide) _ _ _ e01 e12
  have e11 := hp.2.2 (by decide) _ _ _ e01 e01
  have e21 := hp.2.2 (by decide) _ _ _ e02 e01
  have e22 := hp.2.2 (by decide) _ _ _ e02 e02
  refine le3 hC fun w v hw hv h => ?_
  have hw : w = 0 ∨ w = 1 ∨ w = 2 := by omega
  have hv : v = 0 ∨ v = 1 ∨ v = 2 := by omega
  rcases hw with rfl | rfl | rfl <;> rcases hv with rfl | rfl | rfl <;> first | assumption | exact absurd h (by decide)
theorem wit_lit1 {p : Int} {l x : List Nat} (hp : lenP p = 1) (hd : DigL 3 1 x) (hs : shB p l x = true) (h : ∀ a : Fin 3, shB p l [a.1] = true → numV 3 x ≤ numV 3 [a.1]) : WitP 3 p l x := by
  refine ⟨by rw [hp]; exact hd, hs, fun y hy hys => ?_⟩
  rw [hp] at hy
  match y, hy with
  | [a], hy => exact h ⟨a, hy.2 a (by simp)⟩ hys
theorem wit_lit2 {p : Int} {l x : List Nat} (hp : lenP p = 2) (hd : DigL 3 2 x) (hs : shB p l x = true) (h : ∀ a b : Fin 3, shB p l [a.1, b.1] = true → numV 3 x ≤ numV 3 [a.1, b.1]) : WitP 3 p l x := by
  refine ⟨by rw [hp]; exact hd, hs, fun y hy hys => ?_⟩
  rw [hp] at hy
  match y, hy with
  | [a, b], hy => exact h ⟨a, hy.2 a (by simp)⟩ ⟨b, hy.2 b (by simp)⟩ hys
theorem wit_lit3 {p : Int} {l x : List Nat} (hp : lenP p = 3) (hd : DigL 3 3 x) (hs : shB p l x = true) (h : ∀ a b c : Fin 3, shB p l [a.1, b.1, c.1] = true → numV 3 x ≤ numV 3 [a.1, b.1, c.1]) : WitP 3 p l x := by
  refine ⟨by rw [hp]; exact hd, hs, fun y hy hys => ?_⟩
  rw [hp] at hy
  match y, hy with
  | [a, b, c], hy => exact h ⟨a, hy.2 a (by simp)⟩ ⟨b, hy.2 b (by simp)⟩ ⟨c, hy.2 c (by simp)⟩ hys
theorem witEx1 : WitP 3 1 [2, 4, 0] [2] := wit_lit1 (by decide) (dig1 (by decide)) (by decide) (by decide)
theorem witEx2 : WitP 3 2 [2, 4, 0] [0] := wit_lit1 (by decide) (dig1 (by decide)) (by decide) (by decide)
theorem witEx3 : WitP 3 3 [2, 4, 0] [0, 1] := wit_lit2 (by decide) (dig2 (by decide) (by decide)) (by decide) (by decide)
theorem witEx4 : WitP 3 4 [2, 4, 0] [0, 1, 2] := wit_lit3 (by decide) (dig3 (by decide) (by decide) (by decide)) (by decide) (by decide)
theorem witEx5 : WitP 3 5 [2, 4, 0] [0, 1, 1] := wit_lit3 (by decide) (dig3 (by decide) (by decide) (by decide)) (by decide) (by decide)
def dfEx : List Df := [⟨0, 1, [2]⟩, ⟨0, 4, [0, 1, 2]⟩, ⟨0, 5, [0, 1, 1]⟩]
theorem defEx : defM exF 5 = dfEx := by
  unfold defM
  rw [if_pos (exF_ok (by decide))]
  show defU (proL 5) [[2, 4, 0]] (0 + 1) = dfEx
  rw [defU_succ, defU_zero]
  show [] ++ defP 0 [2, 4, 0] [1, 4, 5] = dfEx
  unfold defP
  have h1 : witO 1 [2, 4, 0] = some [2] := witO_some (l := [2, 4, 0]) witEx1
  have h4 : witO 4 [2, 4, 0] = some [0, 1, 2] := witO_some (l := [2, 4, 0]) witEx4
  have h5 : witO 5 [2, 4, 0] = some [0, 1, 1] := witO_some (l := [2, 4, 0]) witEx5
  simp only [List.filterMap_cons, List.filterMap_nil, h1, h4, h5, Option.map_some, List.nil_append]
  rfl
end Go.Proofs.YtjpmhbnikoggaaaGreatDoor
/- Layer 15: the law's examples. -/
namespace Go.Proofs.YtjpmhbnikoggaaaGreatDoor
open Go.RowKit Go.Proofs.Ws
set_option maxRecDepth 100000
theorem four_lit (w : World) (o1 o2 o3 o4 : Array Value) (t1 t2 t3 t4 : TypeId) :
    (((((w.alloc (.cells o1 t1)).alloc (.cells o2 t2)).alloc (.cells o3 t3)).alloc (.cells o4 t4)).heap[w.heap.size]? = some (.cells o1 t1 (0, 0))) ∧
    (((((w.alloc (.cells o1 t1)).alloc (.cells o2 t2)).alloc (.cells o3 t3)).alloc (.cells o4 t4)).heap[w.heap.size + 1]? = some (.cells o2 t2 (0, 0))) ∧
    (((((w.alloc (.cells o1 t1)).alloc (.cells o2 t2)).alloc (.cells o3 t3)).alloc (.cells o4 t4)).heap[w.heap.size + 1 + 1]? = some (.cells o3 t3 (0, 0))) ∧
    (((((w.alloc (.cells o1 t1)).alloc (.cells o2 t2)).alloc (.cells o3 t3)).alloc (.cells o4 t4)).heap[w.heap.size + 1 + 1 + 1]? = some (.cells o4 t4 (0, 0))) ∧
    Below w.heap.size w ((((w.alloc (.cells o1 t1)).alloc (.cells o2 t2)).alloc (.cells o3 t3)).alloc (.cells o4 t4)) := by
  have sz : ∀ (W : World) (o : Obj), (W.alloc o).heap.size = W.heap.size + 1 := fun W o => by simp
  have new : ∀ (W : World) (o : Array Value) (t : TypeId) (k : Nat), k = W.heap.size → (W.alloc (.cells o t)).heap[k]? = some (.cells o t (0, 0)) := fun W o t k hk => by subst hk; exact heap_alloc_new W (.cells o t)
  have keep : ∀ (W : World) (o : Obj) (k : Nat) (x : Obj), W.heap[k]? = some x → (W.alloc o).heap[k]? = some x := fun W o k x h => (Below.heap_alloc W o k (Array.getElem?_eq_some_iff.1 h).1).trans h
  refine ⟨?_, ?_, ?_, ?_, ?_⟩
  · exact keep _ _ _ _ (keep _ _ _ _ (keep _ _ _ _ (new _ _ _ _ rfl)))
  · exact keep _ _ _ _ (keep _ _ _ _ (new _ _ _ _ (by simp only [sz])))
  · exact keep _ _ _ _ (new _ _ _ _ (by simp only [sz]))
  · exact new _ _ _ _ (by simp only [sz])
  · exact ((((Below.refl _ w).alloc (Nat.le_refl _) _).alloc (by simp) _).alloc (by simp; omega) _).alloc (by simp; omega) _
theorem dfEx_lit {W : World} {b : Nat} (h1 : W.heap[b]? = some (.cells #[.int .i64 2] 3 (0, 0))) (h2 : W.heap[b + 1]? = some (.cells #[.int .i64 0, .int .i64 1, .int .i64 2] 3 (0, 0)))
    (h3 : W.heap[b + 1 + 1]? = some (.cells #[.int .i64 0, .int .i64 1, .int .i64 1] 3 (0, 0)))
    (h4 : W.heap[b + 1 + 1 + 1]? = some (.cells #[.int .i64 0, .int .i64 1, .slice (some ⟨b, 0, none⟩) 1 1, .int .i64 0, .int .i64 4, .slice (some ⟨b + 1, 0, none⟩) 3 3, .int .i64 0, .int .i64 5, .slice (some ⟨b + 1 + 1, 0, none⟩) 3 3] 58 (0, 0))) :
    DfS W b (.slice (some ⟨b + 1 + 1 + 1, 0, none⟩) 3 3) dfEx := by
  refine ⟨some ⟨b + 1 + 1 + 1, 0, none⟩, 3, [(b, 1), (b + 1, 3), (b + 1 + 1, 3)], rfl, rfl, ⟨rfl, .inr ⟨_, 3, _, rfl, by omega, h4, Nat.le_refl _, by unfold maxLen; omega, rfl, rfl⟩⟩, fun j hj => ?_⟩
  match j, hj with
  | 0, _ => exact ⟨Nat.le_refl _, [], h1⟩
  | 1, _ => exact ⟨Nat.le_succ _, [], h2⟩
  | 2, _ => exact ⟨by show b ≤ b + 1 + 1; omega, [], h3⟩
  | j + 3, h => exact absurd h (by simp [dfEx])
set_option maxHeartbeats 8000000 in
theorem awake_any (w : World) (hT : Tab w) :
    Calls Tryz.prog 8 #[] w fun e w' => e = .returned (.bool true) ∧ Below w.heap.size w w' := by
  have HX := Lib.hid (example_any w)
  have HT := Lib.hid (fun W (hb : Below w.heap.size w W) => hT.below hb)
  have C4 : Hid (∀ W, Below w.heap.size w W → Calls Tryz.prog 34 #[.int .i64 4, .int .u64 7, .int .u64 6, .int .u64 4] W fun e w' => e = .returned (.bool true) ∧ Below W.heap.size W w') := Lib.hid (fun W hb => closes_any 4 7 6 4 W (by decide) closS4 (HT.out W hb))
  have C6 : Hid (∀ W, Below w.heap.size w W → Calls Tryz.prog 34 #[.int .i64 6, .int .u64 7, .int .u64 7, .int .u64 7] W fun e w' => e = .returned (.bool true) ∧ Below W.heap.size W w') := Lib.hid (fun W hb => closes_any 6 7 7 7 W (by decide) closS5 (HT.out W hb))
  have C1 : Hid (∀ W, Below w.heap.size w W → Calls Tryz.prog 34 #[.int .i64 1, .int .u64 2, .int .u64 4, .int .u64 4] W fun e w' => e = .returned (.bool true) ∧ Below W.heap.size W w') := Lib.hid (fun W hb => closes_any 1 2 4 4 W (by decide) closKD (HT.out W hb))
  have C5 : Hid (∀ W, Below w.heap.size w W → Calls Tryz.prog 34 #[.int .i64 5, .int .u64 6, .int .u64 6, .int .u64 6] W fun e w' => e = .returned (.bool true) ∧ Below W.heap.size W w') := Lib.hid (fun W hb => closes_any 5 6 6 6 W (by decide) closKD45 (HT.out W hb))
  have W2 : Hid (∀ W, Below w.heap.size w W → Calls Tryz.prog 35 #[.int .i64 2, .int .i64 0, .int .u64 2] W fun e w' => e = .returned (.bool true) ∧ Below W.heap.size W w') := Lib.hid (fun W hb => counter_any 2 0 2 [0] W (by decide) witEx2 (by decide) (by decide) (HT.out W hb))
  have W4 : Hid (∀ W, Below w.heap.size w W → Calls Tryz.prog 35 #[.int .i64 4, .int .i64 0, .int .u64 2] W fun e w' => e = .returned (.bool true) ∧ Below W.heap.size W w') := Lib.hid (fun W hb => counter_any 4 0 2 [0, 1, 2] W (by decide) witEx4 (by decide) (by decide) (HT.out W hb))
  have W5 : Hid (∀ W, Below w.heap.size w W → Calls Tryz.prog 35 #[.int .i64 5, .int .i64 0, .int .u64 2] W fun e w' => e = .returned (.bool true) ∧ Below W.heap.size W w') := Lib.hid (fun W hb => counter_any 5 0 2 [0, 1, 1] W (by decide) witEx5 (by decide) (by decide) (HT.out W hb))
  have W1 : Hid (∀ W, Below w.heap.size w W → Calls Tryz.prog 35 #[.int .i64 1, .int .i64 2, .int .u64 0] W fun e w' => e = .returned (.bool true) ∧ Below W.heap.size W w') := Lib.hid (fun W hb => counter_any 1 2 0 [2] W (by decide) witEx1 (by decide) (by decide) (HT.out W hb))
  have W3 : Hid (∀ W, Below w.heap.size w W → Calls Tryz.prog 35 #[.int .i64 3, .int .i64 0, .int .u64 1] W fun e w' => e = .returned (.bool true) ∧ Below W.heap.size W w') := Lib.hid (fun W hb => counter_any 3 0 1 [0, 1] W (by decide) witEx3 (by decide) (by decide) (HT.out W hb))
  clear hT
  go_enter Tryz.func8, Tryz.ntmps8
  go_wp2_with fail
  refine (HX.out).mono ?_
  rintro e w1 ⟨v, rfl, hm, hb⟩
  have HB := Lib.hid hb
  have HD := Lib.hid (pDef_any exF v 5 w1 hm (HT.out w1 hb))
  unfold GivesD at HD
  rw [exF_ok (g := 5) (by decide), defEx] at HD
  clear hm hb
  go_wp2_with fail
  refine (HD.out).mono ?_
  rintro e w2 ⟨v2, rfl, hd, hb⟩
  have HB2 := Lib.hid (HB.out.trans (hb.mono HB.out.size))
  obtain ⟨A2, c2, rfl⟩ := hd.form
  have HDF := Lib.hid hd
  clear hb hd
  rw [show dfEx.length = 3 from rfl]
  rw [show dfEx.length = 3 from rfl] at HDF
  obtain ⟨k0, k1, k2, k3, kb⟩ := four_lit w2 #[.int .i64 2] #[.int .i64 0, .int .i64 1, .int .i64 2] #[.int .i64 0, .int .i64 1, .int .i64 1]
    #[.int .i64 0, .int .i64 1, .slice (some ⟨w2.heap.size, 0, none⟩) 1 1, .int .i64 0, .int .i64 4, .slice (some ⟨w2.heap.size + 1, 0, none⟩) 3 3, .int .i64 0, .int .i64 5, .slice (some ⟨w2.heap.size + 1 + 1, 0, none⟩) 3 3] 3 3 3 58
  have HL := Lib.hid (dfEx_lit k0 k1 k2 k3)
  have HKB := Lib.hid kb
  clear k0 k1 k2 k3 kb
  go_wp2_with fail
  generalize (((w2.alloc (.cells #[.int .i64 2] 3)).alloc (.cells #[.int .i64 0, .int .i64 1, .int .i64 2] 3)).alloc (.cells #[.int .i64 0, .int .i64 1, .int .i64 1] 3)).alloc (.cells #[.int .i64 0, .int .i64 1, .slice (some ⟨w2.heap.size, 0, none⟩) 1 1, .int .i64 0, .int .i64 4, .slice (some ⟨w2.heap.size + 1, 0, none⟩) 3 3, .int .i64 0, .int .i64 5, .slice (some ⟨w2.heap.size + 1 + 1, 0, none⟩) 3 3] 58) = w3 at *
  have HB3 := Lib.hid (HB2.out.trans (HKB.out.mono HB2.out.size))
  have HS := Lib.hid (rSameD_any dfEx dfEx _ _ _ _ w3 (HDF.out.below HKB.out) HL.out (by decide) (by decide) (by decide) (by decide))
  rw [show qB (dfEx = dfEx) = true from (qB_iff _).2 rfl] at HS
  refine (HS.out).mono ?_
  rintro e w4 ⟨rfl, hb⟩
  have HB4 := Lib.hid (HB3.out.trans (hb.mono HB3.out.size))
  clear hb HS HL HKB HDF HD HX HB HB2 HB3
  go_wp2_with fail
  refine (C4.out _ HB4.out).mono ?_
  rintro e w5 ⟨rfl, hb⟩
  have HB5 := Lib.hid (HB4.out.trans (hb.mono HB4.out.size))
  clear hb
  go_wp2_with fail
  refine (C6.out _ HB5.out).mono ?_
  rintro e w6 ⟨rfl, hb⟩
  have HB6 := Lib.hid (HB5.out.trans (hb.mono HB5.out.size))
  clear hb
  go_wp2_with fail
  refine (C1.out _ HB6.out).mono ?_
  rintro e w7 ⟨rfl, hb⟩
  have HB7 := Lib.hid (HB6.out.trans (hb.mono HB6.out.size))
  clear hb
  go_wp2_with fail
  refine (C5.out _ HB7.out).mono ?_
  rintro e w8 ⟨rfl, hb⟩
  have HB8 := Lib.hid (HB7.out.trans (hb.mono HB7.out.size))
  clear hb
  go_wp2_with fail
  refine (W2.out _ HB8.out).mono ?_
  rintro e w9 ⟨rfl, hb⟩
  have HB9 := Lib.hid (HB8.out.trans (hb.mono HB8.out.size))
  clear hb
  go_wp2_with fail
  refine (W4.out _ HB9.out).mono ?_
  rintro e w10 ⟨rfl, hb⟩
  have HB10 := Lib.hid (HB9.out.trans (hb.mono HB9.out.size))
  clear hb
  go_wp2_with fail
  refine (W5.out _ HB10.out).mono ?_
  rintro e w11 ⟨rfl, hb⟩
  have HB11 := Lib.hid (HB10.out.trans (hb.mono HB10.out.size))
  clear hb
  go_wp2_with fail
  refine (W1.out _ HB11.out).mono ?_
  rintro e w12 ⟨rfl, hb⟩
  have HB12 := Lib.hid (HB11.out.trans (hb.mono HB11.out.size))
  clear hb
  go_wp2_with fail
  refine (W3.out _ HB12.out).mono ?_
  rintro e w13 ⟨rfl, hb⟩
  have HB13 := Lib.hid (HB12.out.trans (hb.mono HB12.out.size))
  clear hb
  go_wp2
  go_ret
  exact ⟨rfl, HB13.out⟩
end Go.Proofs.YtjpmhbnikoggaaaGreatDoor
/- Layer 15: what is small, for any bound of worlds. -/
namespace Go.Proofs.YtjpmhbnikoggaaaGreatDoor
open Go.RowKit Go.Proofs.Ws
set_option maxRecDepth 100000
end Go.Proofs.YtjpmhbnikoggaaaGreatDoor
