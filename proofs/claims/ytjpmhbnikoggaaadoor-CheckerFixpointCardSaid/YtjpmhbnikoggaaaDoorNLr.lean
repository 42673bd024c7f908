/- Layer 17: the examples of the chapter, and what is small. -/
import Derived.Test.YtjpmhbnikoggaaaDoorNJk
import Derived.Test.YtjpmhbnikoggaaaDoorNKe
import Derived.BigRegion
import Derived.Deep.Cut
import Derived.Deep.CutRange
import Derived.Laws.ResultCell
import Derived.StillTailTactics
namespace Go.Proofs.YtjpmhbnikoggaaaDoor
open Go.RowKit Go.Proofs.Ws
set_option maxRecDepth 100000
theorem ret_cellK {P : Program} {fn : Func} {p : Tmp} {ty : TypeId} (h : fn.results = #[.cell p ty]) (tmps : Array Value) (w : World) (g : Nat) (t : TypeId) (cs : Array Value) (fr : Nat × Nat) (d : TypeDesc)
    (hp : tmps.getD p undef = .pointer (some ⟨g, 0, none⟩)) (hg : w.heap[g]? = some (.cells cs t fr))
    (hu : P.underlying ty = some d) (hd : (match d with | .struct _ | .array _ _ => true | _ => false) = true) (hi : (P.info? ty).map (·.size) = some cs.size) :
    (results fn tmps).run P w = .ok (.agg cs) w := by
  rw [results_cell h, hp]
  simp [asAddr, Result.andThen, run_loadVar_row w g t ty cs fr d hg hu hd hi]
theorem words_ofK {l : List Nat} (h : l.all (fun x => decide (x < 18446744073709551616)) = true) : Words l := fun x hx => of_decide_eq_true (List.all_eq_true.1 h x hx)
/-- a model with two agents whose lists lie in blocks of their own -/
theorem MoR.litK {W : World} {n : Nat} {val r1 r2 : List Nat} {b1 b2 b3 b4 : Nat} (h1 : HoldsU W b1 val) (h2 : HoldsU W b2 r1) (h3 : HoldsU W b3 r2)
    (h4 : HoldsV W b4 [.slice (some ⟨b2, 0, none⟩) r1.length r1.length, .slice (some ⟨b3, 0, none⟩) r2.length r2.length]) (hn : n ≤ 1000) (hl : val.length ≤ 1000 ∧ r1.length ≤ 1000 ∧ r2.length ≤ 1000)
    (hw : Words val) (hw1 : Words r1) (hw2 : Words r2) :
    MoR W W.heap.size (.agg #[.int .i64 (n : Int), .slice (some ⟨b1, 0, none⟩) val.length val.length, .slice (some ⟨b4, 0, none⟩) 2 2]) ⟨(n : Int), val, [r1, r2]⟩ := by
  refine ⟨⟨some ⟨b1, 0, none⟩, val.length, some ⟨b4, 0, none⟩, 2, rfl, h1.reads, ⟨rfl, [.slice (some ⟨b2, 0, none⟩) r1.length r1.length, .slice (some ⟨b3, 0, none⟩) r2.length r2.length], ⟨rfl, fun _ => ⟨_, rfl, h4.lt, fun j u hu => ?_⟩⟩, fun j hj => ?_⟩⟩, ⟨by dsimp only; unfold maxLen; omega, by dsimp only; unfold maxLen; simp⟩, ⟨by dsimp only; omega, by dsimp only; omega⟩, hw, fun r hr => ?_⟩
  · have hj : j < 2 := (List.getElem?_eq_some_iff.1 hu).1
    rw [addr0, h4.cell j hj, List.getD_eq_getElem?_getD, hu]; rfl
  · match j, hj with
    | 0, _ => exact ⟨some ⟨b2, 0, none⟩, r1.length, rfl, h2.reads, by show r1.length ≤ maxLen; unfold maxLen; omega⟩
    | 1, _ => exact ⟨some ⟨b3, 0, none⟩, r2.length, rfl, h3.reads, by show r2.length ≤ maxLen; unfold maxLen; omega⟩
    | j + 2, h => exact absurd h (by simp)
  · rcases List.mem_cons.1 hr with rfl | hr
    · exact hw1
    · rw [List.mem_singleton.1 hr]; exact hw2
theorem four_atK (w : World) (o1 o2 o3 o4 : Array Value) (t1 t2 t3 t4 : TypeId) :
    (((((w.alloc (.cells o1 t1)).alloc (.cells o2 t2)).alloc (.cells o3 t3)).alloc (.cells o4 t4)).heap[w.heap.size]? = some (.cells o1 t1 (0, 0))) ∧
    (((((w.alloc (.cells o1 t1)).alloc (.cells o2 t2)).alloc (.cells o3 t3)).alloc (.cells o4 t4)).heap[w.heap.size + 1]? = some (.cells o2 t2 (0, 0))) ∧
    (((((w.alloc (.cells o1 t1)).alloc (.cells o2 t2)).alloc (.cells o3 t3)).alloc (.cells o4 t4)).heap[w.heap.size + 1 + 1]? = some (.cells o3 t3 (0, 0))) ∧
    (((((w.alloc (.cells o1 t1)).alloc (.cells o2 t2)).alloc (.cells o3 t3)).alloc (.cells o4 t4)).heap[w.heap.size + 1 + 1 + 1]? = some (.cells o4 t4 (0, 0))) ∧
    Below w.heap.size w ((((w.alloc (.cells o1 t1)).alloc (.cells o2 t2)).alloc (.cells o3 t3)).alloc (.cells o4 t4)) := by
  have sz : ∀ (W : World) (o : Obj), (W.alloc o).heap.size = W.heap.size + 1 := fun W o => by simp
  have new : ∀ (W : World) (o : Array Value) (t : TypeId) (k : Nat), k = W.heap.size → (W.alloc (.cells o t)).heap[k]? = some (.cells o t (0, 0)) := fun W o t k hk => by subst hk; exact heap_alloc_new W (.cells o t)
  have keep : ∀ (W : World) (o : Obj) (k : Nat) (x : Obj), W.heap[k]? = some x → (W.alloc o).heap[k]? = some x := fun W o k x h => (Below.heap_alloc W o k (Array.getElem?_eq_some_iff.1 h).1).trans h
  refine ⟨?_, ?_, ?_, ?_, ?_⟩
  · exact keep _ _ _ _ (keep _ _ _ _ (keep _ _ _ _ (new _ _ _ _ rfl)))
  · exact keep _ _ _ _ (keep _ _ _ _ (new _ _ _ _ (by simp only [sz])))
  · exact keep _ _ _ _ (new _ _ _ _ (by simp only [sz]))
  · exact new _ _ _ _ (by simp only [sz])
  · exact ((((Below.refl _ w).alloc (Nat.le_refl _) _).alloc (by simp) _).alloc (by simp; omega) _).alloc (by simp; omega) _
def exK : Mo := ⟨3, [3], [[3, 3, 4], [1, 6, 6]]⟩
set_option maxHeartbeats 4000000 in
theorem exampleK_any (w : World) :
    Calls Tryd.prog 32 #[] w fun e w' => ∃ v, e = .returned v ∧ MoR w' w'.heap.size v exK ∧ Below w.heap.size w w' := by
  go_enter Tryd.func32, Tryd.ntmps32
  go_wp2
  have hg0 := heap_alloc_new w (.cells #[.int .i64 3, .slice (some ⟨w.heap.size + 1, 0, none⟩) 1 1, .slice (some ⟨w.heap.size + 1 + 1 + 1 + 1, 0, none⟩) 2 2] 25)
  have hb0 : Below w.heap.size w (w.alloc (.cells #[.int .i64 3, .slice (some ⟨w.heap.size + 1, 0, none⟩) 1 1, .slice (some ⟨w.heap.size + 1 + 1 + 1 + 1, 0, none⟩) 2 2] 25)) := (Below.refl _ w).alloc (Nat.le_refl _) _
  have hsz : (w.alloc (.cells #[.int .i64 3, .slice (some ⟨w.heap.size + 1, 0, none⟩) 1 1, .slice (some ⟨w.heap.size + 1 + 1 + 1 + 1, 0, none⟩) 2 2] 25)).heap.size = w.heap.size + 1 := by simp
  have h4 := four_atK (w.alloc (.cells #[.int .i64 3, .slice (some ⟨w.heap.size + 1, 0, none⟩) 1 1, .slice (some ⟨w.heap.size + 1 + 1 + 1 + 1, 0, none⟩) 2 2] 25))
    #[.int .u64 3] #[.int .u64 3, .int .u64 3, .int .u64 4] #[.int .u64 1, .int .u64 6, .int .u64 6] #[.slice (some ⟨w.heap.size + 1 + 1, 0, none⟩) 3 3, .slice (some ⟨w.heap.size + 1 + 1 + 1, 0, none⟩) 3 3] 31 31 31 22
  rw [hsz] at h4
  obtain ⟨k1, k2, k3, k4, kb⟩ := h4
  have hg1 := (kb.block w.heap.size (by omega)).trans hg0
  generalize ((((w.alloc (.cells #[.int .i64 3, .slice (some ⟨w.heap.size + 1, 0, none⟩) 1 1, .slice (some ⟨w.heap.size + 1 + 1 + 1 + 1, 0, none⟩) 2 2] 25)).alloc (.cells #[.int .u64 3] 31)).alloc (.cells #[.int .u64 3, .int .u64 3, .int .u64 4] 31)).alloc (.cells #[.int .u64 1, .int .u64 6, .int .u64 6] 31)).alloc (.cells #[.slice (some ⟨w.heap.size + 1 + 1, 0, none⟩) 3 3, .slice (some ⟨w.heap.size + 1 + 1 + 1, 0, none⟩) 3 3] 22) = w9 at *
  (try simp only [Exit.inBlock, Exit.then])
  refine bodyPost_ret (ret_cellK rfl _ _ w.heap.size _ _ _ _ rfl hg1 Tryd.underlying25 rfl (by kernel_rfl)) rfl ?_
  exact ⟨_, rfl, MoR.litK (n := 3) (val := [3]) (r1 := [3, 3, 4]) (r2 := [1, 6, 6]) k1 k2 k3 k4 (by decide) (by decide) (words_ofK (by decide)) (words_ofK (by decide)) (words_ofK (by decide)), hb0.trans (kb.mono (by omega))⟩
theorem buildF_lenK (n : Nd) (fs : List (List Nd)) : (buildF n fs).length ≤ 200 := by
  unfold buildF
  split
  · simp
  · split
    · simp
    · split
      · simp
      · omega
def kF : List Nd := buildF ⟨3, 0, 0, 0, 0, 0⟩ []
theorem kF_len : kF.length ≤ maxLen := Nat.le_trans (buildF_lenK _ _) (by unfold maxLen; omega)
def kT : List Nd := buildF ⟨1, 0, 0, 0, 0, 0⟩ []
theorem kT_len : kT.length ≤ maxLen := Nat.le_trans (buildF_lenK _ _) (by unfold maxLen; omega)
def kK0 : List Nd := buildF ⟨9, 0, 0, 0, 0, 0⟩ [kF]
theorem kK0_len : kK0.length ≤ maxLen := Nat.le_trans (buildF_lenK _ _) (by unfold maxLen; omega)
def kK1 : List Nd := buildF ⟨9, 1, 0, 0, 0, 0⟩ [kF]
theorem kK1_len : kK1.length ≤ maxLen := Nat.le_trans (buildF_lenK _ _) (by unfold maxLen; omega)
def kE : List Nd := buildF ⟨11, 0, 0, 3, 0, 0⟩ [kF]
theorem kE_len : kE.length ≤ maxLen := Nat.le_trans (buildF_lenK _ _) (by unfold maxLen; omega)
def kD : List Nd := buildF ⟨12, 0, 0, 3, 0, 0⟩ [kF]
theorem kD_len : kD.length ≤ maxLen := Nat.le_trans (buildF_lenK _ _) (by unfold maxLen; omega)
def kC1 : List Nd := buildF ⟨13, 0, 0, 3, 0, 0⟩ [kT, kF]
theorem kC1_len : kC1.length ≤ maxLen := Nat.le_trans (buildF_lenK _ _) (by unfold maxLen; omega)
def kC2 : List Nd := buildF ⟨13, 0, 0, 3, 0, 0⟩ [kF, kF]
theorem kC2_len : kC2.length ≤ maxLen := Nat.le_trans (buildF_lenK _ _) (by unfold maxLen; omega)
def kN : List Nd := buildF ⟨4, 0, 0, 0, 0, 0⟩ [kF]
theorem kN_len : kN.length ≤ maxLen := Nat.le_trans (buildF_lenK _ _) (by unfold maxLen; omega)
def kP : List Nd := buildF ⟨10, 1, 0, 0, 0, 0⟩ [kN]
theorem kP_len : kP.length ≤ maxLen := Nat.le_trans (buildF_lenK _ _) (by unfold maxLen; omega)
def kO : List Nd := buildF ⟨6, 0, 0, 0, 0, 0⟩ [kF, kN]
theorem kO_len : kO.length ≤ maxLen := Nat.le_trans (buildF_lenK _ _) (by unfold maxLen; omega)
def kS : List Nd := buildF ⟨15, 0, 0, 0, 0, 0⟩ [kF]
theorem kS_len : kS.length ≤ maxLen := Nat.le_trans (buildF_lenK _ _) (by unfold maxLen; omega)
def kK2 : List Nd := buildF ⟨9, 2, 0, 0, 0, 0⟩ [kF]
theorem kK2_len : kK2.length ≤ maxLen := Nat.le_trans (buildF_lenK _ _) (by unfold maxLen; omega)
theorem mk_kF (W : World) : Calls Tryd.prog 28 #[.int .i64 0] W fun e w' => ∃ A' c', e = .returned (.slice A' kF.length c') ∧ Reads w' w'.heap.size 6 A' kF.length (nds kF) ∧ Below W.heap.size W w' := pFact_any 0 W
theorem mk_kT (W : World) : Calls Tryd.prog 30 #[] W fun e w' => ∃ A' c', e = .returned (.slice A' kT.length c') ∧ Reads w' w'.heap.size 6 A' kT.length (nds kT) ∧ Below W.heap.size W w' := pTrue_any W
theorem mk_kK0 (A0 : Option Addr) (c0 : Nat) (W : World) (h0 : Reads W W.heap.size 6 A0 kF.length (nds kF)) : Calls Tryd.prog 15 #[.int .i64 0, .slice A0 kF.length c0] W fun e w' => ∃ A' c', e = .returned (.slice A' kK0.length c') ∧ Reads w' w'.heap.size 6 A' kK0.length (nds kK0) ∧ Below W.heap.size W w' := pKnow_any 0 kF A0 _ c0 W h0 kF_len
theorem mk_kK1 (A0 : Option Addr) (c0 : Nat) (W : World) (h0 : Reads W W.heap.size 6 A0 kF.length (nds kF)) : Calls Tryd.prog 15 #[.int .i64 1, .slice A0 kF.length c0] W fun e w' => ∃ A' c', e = .returned (.slice A' kK1.length c') ∧ Reads w' w'.heap.size 6 A' kK1.length (nds kK1) ∧ Below W.heap.size W w' := pKnow_any 1 kF A0 _ c0 W h0 kF_len
theorem mk_kE (A0 : Option Addr) (c0 : Nat) (W : World) (h0 : Reads W W.heap.size 6 A0 kF.length (nds kF)) : Calls Tryd.prog 16 #[.int .i64 3, .slice A0 kF.length c0] W fun e w' => ∃ A' c', e = .returned (.slice A' kE.length c') ∧ Reads w' w'.heap.size 6 A' kE.length (nds kE) ∧ Below W.heap.size W w' := pEvery_any 3 kF A0 _ c0 W h0 kF_len
theorem mk_kD (A0 : Option Addr) (c0 : Nat) (W : World) (h0 : Reads W W.heap.size 6 A0 kF.length (nds kF)) : Calls Tryd.prog 17 #[.int .i64 3, .slice A0 kF.length c0] W fun e w' => ∃ A' c', e = .returned (.slice A' kD.length c') ∧ Reads w' w'.heap.size 6 A' kD.length (nds kD) ∧ Below W.heap.size W w' := pDist_any 3 kF A0 _ c0 W h0 kF_len
theorem mk_kC1 (A0 : Option Addr) (c0 : Nat) (A1 : Option Addr) (c1 : Nat) (W : World) (h0 : Reads W W.heap.size 6 A0 kT.length (nds kT)) (h1 : Reads W W.heap.size 6 A1 kF.length (nds kF)) : Calls Tryd.prog 19 #[.int .i64 3, .slice A0 kT.length c0, .slice A1 kF.length c1] W fun e w' => ∃ A' c', e = .returned (.slice A' kC1.length c') ∧ Reads w' w'.heap.size 6 A' kC1.length (nds kC1) ∧ Below W.heap.size W w' := pCommon_any 3 kT A0 _ c0 kF A1 _ c1 W h0 kT_len h1 kF_len
theorem mk_kC2 (A0 : Option Addr) (c0 : Nat) (A1 : Option Addr) (c1 : Nat) (W : World) (h0 : Reads W W.heap.size 6 A0 kF.length (nds kF)) (h1 : Reads W W.heap.size 6 A1 kF.length (nds kF)) : Calls Tryd.prog 19 #[.int .i64 3, .slice A0 kF.length c0, .slice A1 kF.length c1] W fun e w' => ∃ A' c', e = .returned (.slice A' kC2.length c') ∧ Reads w' w'.heap.size 6 A' kC2.length (nds kC2) ∧ Below W.heap.size W w' := pCommon_any 3 kF A0 _ c0 kF A1 _ c1 W h0 kF_len h1 kF_len
theorem mk_kN (A0 : Option Addr) (c0 : Nat) (W : World) (h0 : Reads W W.heap.size 6 A0 kF.length (nds kF)) : Calls Tryd.prog 14 #[.slice A0 kF.length c0] W fun e w' => ∃ A' c', e = .returned (.slice A' kN.length c') ∧ Reads w' w'.heap.size 6 A' kN.length (nds kN) ∧ Below W.heap.size W w' := pNot_any kF A0 _ c0 W h0 kF_len
theorem mk_kP (A0 : Option Addr) (c0 : Nat) (W : World) (h0 : Reads W W.heap.size 6 A0 kN.length (nds kN)) : Calls Tryd.prog 13 #[.int .i64 1, .slice A0 kN.length c0] W fun e w' => ∃ A' c', e = .returned (.slice A' kP.length c') ∧ Reads w' w'.heap.size 6 A' kP.length (nds kP) ∧ Below W.heap.size W w' := pPoss_any 1 kN A0 _ c0 W h0 kN_len
theorem mk_kO (A0 : Option Addr) (c0 : Nat) (A1 : Option Addr) (c1 : Nat) (W : World) (h0 : Reads W W.heap.size 6 A0 kF.length (nds kF)) (h1 : Reads W W.heap.size 6 A1 kN.length (nds kN)) : Calls Tryd.prog 26 #[.slice A0 kF.length c0, .slice A1 kN.length c1] W fun e w' => ∃ A' c', e = .returned (.slice A' kO.length c') ∧ Reads w' w'.heap.size 6 A' kO.length (nds kO) ∧ Below W.heap.size W w' := pOr_any kF A0 _ c0 kN A1 _ c1 W h0 kF_len h1 kN_len
theorem mk_kS (A0 : Option Addr) (c0 : Nat) (W : World) (h0 : Reads W W.heap.size 6 A0 kF.length (nds kF)) : Calls Tryd.prog 34 #[.int .i64 0, .slice A0 kF.length c0] W fun e w' => ∃ A' c', e = .returned (.slice A' kS.length c') ∧ Reads w' w'.heap.size 6 A' kS.length (nds kS) ∧ Below W.heap.size W w' := pSafe_any 0 kF A0 _ c0 W h0 kF_len
theorem mk_kK2 (A0 : Option Addr) (c0 : Nat) (W : World) (h0 : Reads W W.heap.size 6 A0 kF.length (nds kF)) : Calls Tryd.prog 15 #[.int .i64 2, .slice A0 kF.length c0] W fun e w' => ∃ A' c', e = .returned (.slice A' kK2.length c') ∧ Reads w' w'.heap.size 6 A' kK2.length (nds kK2) ∧ Below W.heap.size W w' := pKnow_any 2 kF A0 _ c0 W h0 kF_len
set_option maxHeartbeats 4000000 in
theorem lHolds_any (f : List Nd) (want : Nat) (A : Option Addr) (c : Nat) (w : World) (hR : Reads w w.heap.size 6 A f.length (nds f)) (hm : f.length ≤ maxLen) (hz : chkF exK f = 0) (hw : holdV exK f = want) (hT : Tab w) :
    Calls Tryd.prog 29 #[.slice A f.length c, .int .u64 (want : Int)] w fun e w' => e = .returned (.bool true) ∧ Below w.heap.size w w' := by
  have HE := Lib.hid (exampleK_any w)
  have HH := Lib.hid (fun W v (hb : Below w.heap.size w W) (hM : MoR W W.heap.size v exK) => pHolds_anyC exK v f A f.length c W hM ((hR.below hb).more hb.size) hm (hT.below hb))
  rw [hz, hw] at HH
  clear hR hm hz hw hT
  generalize f.length = n at *
  go_enter Tryd.func29, Tryd.ntmps29
  go_wp2_with fail
  refine (HE.out).mono ?_
  rintro e w1 ⟨v, rfl, hM, hb⟩
  obtain ⟨B1, d1, B2, d2, rfl, _, _⟩ := hM.ex
  have HB1 := Lib.hid hb
  have HK := Lib.hid (HH.out w1 _ hb hM)
  clear hb hM HE HH
  go_wp2_with fail
  refine (HK.out).mono ?_
  rintro e w2 ⟨rfl, hb⟩
  have HB2 := Lib.hid (HB1.out.trans (hb.mono HB1.out.size))
  clear hb
  go_wp2
  go_ret
  exact ⟨rfl, HB2.out⟩
set_option maxHeartbeats 16000000 in
theorem awake17_any (w : World) (hT : Tab w) : Calls Tryd.prog 9 #[] w fun e w' => e = .returned (.bool true) ∧ Below w.heap.size w w' := by
  have HT := Lib.hid (fun W (hb : Below w.heap.size w W) => hT.below hb)
  clear hT
  go_enter Tryd.func9, Tryd.ntmps9
  have HB0 : Hid (Below w.heap.size w w) := Lib.hid (Below.refl _ _)
  go_wp2_with fail
  refine (mk_kF w).mono ?_
  rintro e w1 ⟨A_kF, c_kF, rfl, hr, hb⟩
  have HB1 := Lib.hid (HB0.out.trans (hb.mono HB0.out.size))
  have RkF := Lib.hid hr
  clear hb hr
  go_wp2_with fail
  refine (mk_kK0 A_kF c_kF w1 RkF.out).mono ?_
  rintro e w2 ⟨A_kK0, c_kK0, rfl, hr, hb⟩
  have HB2 := Lib.hid (HB1.out.trans (hb.mono HB1.out.size))
  have RkF := Lib.hid ((RkF.out.below hb).more hb.size)
  have RkK0 := Lib.hid hr
  clear hb hr
  go_wp2_with fail
  refine (lHolds_any kK0 3 A_kK0 c_kK0 w2 RkK0.out kK0_len (by decide +kernel) (by decide +kernel) (HT.out w2 HB2.out)).mono ?_
  rintro e w3 ⟨rfl, hb⟩
  have HB3 := Lib.hid (HB2.out.trans (hb.mono HB2.out.size))
  have RkF := Lib.hid ((RkF.out.below hb).more hb.size)
  have RkK0 := Lib.hid ((RkK0.out.below hb).more hb.size)
  clear hb
  go_wp2_with fail
  refine (mk_kK1 A_kF c_kF w3 RkF.out).mono ?_
  rintro e w4 ⟨A_kK1, c_kK1, rfl, hr, hb⟩
  have HB4 := Lib.hid (HB3.out.trans (hb.mono HB3.out.size))
  have RkF := Lib.hid ((RkF.out.below hb).more hb.size)
  have RkK1 := Lib.hid hr
  clear hb hr
  go_wp2_with fail
  refine (lHolds_any kK1 1 A_kK1 c_kK1 w4 RkK1.out kK1_len (by decide +kernel) (by decide +kernel) (HT.out w4 HB4.out)).mono ?_
  rintro e w5 ⟨rfl, hb⟩
  have HB5 := Lib.hid (HB4.out.trans (hb.mono HB4.out.size))
  have RkF := Lib.hid ((RkF.out.below hb).more hb.size)
  have RkK1 := Lib.hid ((RkK1.out.below hb).more hb.size)
  clear hb
  go_wp2_with fail
  refine (mk_kE A_kF c_kF w5 RkF.out).mono ?_
  rintro e w6 ⟨A_kE, c_kE, rfl, hr, hb⟩
  have HB6 := Lib.hid (HB5.out.trans (hb.mono HB5.out.size))
  have RkF := Lib.hid ((RkF.out.below hb).more hb.size)
  have RkE := Lib.hid hr
  clear hb hr
  go_wp2_with fail
  refine (lHolds_any kE 1 A_kE c_kE w6 RkE.out kE_len (by decide +kernel) (by decide +kernel) (HT.out w6 HB6.out)).mono ?_
  rintro e w7 ⟨rfl, hb⟩
  have HB7 := Lib.hid (HB6.out.trans (hb.mono HB6.out.size))
  have RkF := Lib.hid ((RkF.out.below hb).more hb.size)
  have RkE := Lib.hid ((RkE.out.below hb).more hb.size)
  clear hb
  go_wp2_with fail
  refine (mk_kD A_kF c_kF w7 RkF.out).mono ?_
  rintro e w8 ⟨A_kD, c_kD, rfl, hr, hb⟩
  have HB8 := Lib.hid (HB7.out.trans (hb.mono HB7.out.size))
  have RkF := Lib.hid ((RkF.out.below hb).more hb.size)
  have RkD := Lib.hid hr
  clear hb hr
  go_wp2_with fail
  refine (lHolds_any kD 3 A_kD c_kD w8 RkD.out kD_len (by decide +kernel) (by decide +kernel) (HT.out w8 HB8.out)).mono ?_
  rintro e w9 ⟨rfl, hb⟩
  have HB9 := Lib.hid (HB8.out.trans (hb.mono HB8.out.size))
  have RkF := Lib.hid ((RkF.out.below hb).more hb.size)
  have RkD := Lib.hid ((RkD.out.below hb).more hb.size)
  clear hb
  go_wp2_with fail
  refine (mk_kT w9).mono ?_
  rintro e w10 ⟨A_kT, c_kT, rfl, hr, hb⟩
  have HB10 := Lib.hid (HB9.out.trans (hb.mono HB9.out.size))
  have RkF := Lib.hid ((RkF.out.below hb).more hb.size)
  have RkT := Lib.hid hr
  clear hb hr
  go_wp2_with fail
  refine (mk_kC1 A_kT c_kT A_kF c_kF w10 RkT.out RkF.out).mono ?_
  rintro e w11 ⟨A_kC1, c_kC1, rfl, hr, hb⟩
  have HB11 := Lib.hid (HB10.out.trans (hb.mono HB10.out.size))
  have RkF := Lib.hid ((RkF.out.below hb).more hb.size)
  have RkT := Lib.hid ((RkT.out.below hb).more hb.size)
  have RkC1 := Lib.hid hr
  clear hb hr
  go_wp2_with fail
  refine (lHolds_any kC1 0 A_kC1 c_kC1 w11 RkC1.out kC1_len (by decide +kernel) (by decide +kernel) (HT.out w11 HB11.out)).mono ?_
  rintro e w12 ⟨rfl, hb⟩
  have HB12 := Lib.hid (HB11.out.trans (hb.mono HB11.out.size))
  have RkF := Lib.hid ((RkF.out.below hb).more hb.size)
  have RkT := Lib.hid ((RkT.out.below hb).more hb.size)
  have RkC1 := Lib.hid ((RkC1.out.below hb).more hb.size)
  clear hb
  go_wp2_with fail
  refine (mk_kC2 A_kF c_kF A_kF c_kF w12 RkF.out RkF.out).mono ?_
  rintro e w13 ⟨A_kC2, c_kC2, rfl, hr, hb⟩
  have HB13 := Lib.hid (HB12.out.trans (hb.mono HB12.out.size))
  have RkF := Lib.hid ((RkF.out.below hb).more hb.size)
  have RkC2 := Lib.hid hr
  clear hb hr
  go_wp2_with fail
  refine (lHolds_any kC2 7 A_kC2 c_kC2 w13 RkC2.out kC2_len (by decide +kernel) (by decide +kernel) (HT.out w13 HB13.out)).mono ?_
  rintro e w14 ⟨rfl, hb⟩
  have HB14 := Lib.hid (HB13.out.trans (hb.mono HB13.out.size))
  have RkF := Lib.hid ((RkF.out.below hb).more hb.size)
  have RkC2 := Lib.hid ((RkC2.out.below hb).more hb.size)
  clear hb
  go_wp2_with fail
  refine (mk_kN A_kF c_kF w14 RkF.out).mono ?_
  rintro e w15 ⟨A_kN, c_kN, rfl, hr, hb⟩
  have HB15 := Lib.hid (HB14.out.trans (hb.mono HB14.out.size))
  have RkF := Lib.hid ((RkF.out.below hb).more hb.size)
  have RkN := Lib.hid hr
  clear hb hr
  go_wp2_with fail
  refine (mk_kP A_kN c_kN w15 RkN.out).mono ?_
  rintro e w16 ⟨A_kP, c_kP, rfl, hr, hb⟩
  have HB16 := Lib.hid (HB15.out.trans (hb.mono HB15.out.size))
  have RkF := Lib.hid ((RkF.out.below hb).more hb.size)
  have RkN := Lib.hid ((RkN.out.below hb).more hb.size)
  have RkP := Lib.hid hr
  clear hb hr
  go_wp2_with fail
  refine (lHolds_any kP 6 A_kP c_kP w16 RkP.out kP_len (by decide +kernel) (by decide +kernel) (HT.out w16 HB16.out)).mono ?_
  rintro e w17 ⟨rfl, hb⟩
  have HB17 := Lib.hid (HB16.out.trans (hb.mono HB16.out.size))
  have RkF := Lib.hid ((RkF.out.below hb).more hb.size)
  have RkN := Lib.hid ((RkN.out.below hb).more hb.size)
  have RkP := Lib.hid ((RkP.out.below hb).more hb.size)
  clear hb
  go_wp2_with fail
  refine (exampleK_any w17).mono ?_
  rintro e w18 ⟨v, rfl, hM, hb⟩
  have HB18 := Lib.hid (HB17.out.trans (hb.mono HB17.out.size))
  have RkF := Lib.hid ((RkF.out.below hb).more hb.size)
  obtain ⟨B1, d1, B2, d2, rfl, _, _⟩ := hM.ex
  have HM := Lib.hid hM
  clear hb hM
  have HAT := Lib.hid (pAt_anyC exK _ 1 kF A_kF kF.length c_kF w18 HM.out RkF.out kF_len (HT.out w18 HB18.out))
  rw [show atV exK kF 1 = true from by decide +kernel, show atE exK kF 1 = 0 from by decide +kernel] at HAT
  go_wp2_with fail
  refine (HAT.out).mono ?_
  rintro e w19 ⟨rfl, hb⟩
  have HB19 := Lib.hid (HB18.out.trans (hb.mono HB18.out.size))
  have RkF := Lib.hid ((RkF.out.below hb).more hb.size)
  clear hb HAT HM
  go_wp2_with fail
  refine (exampleK_any w19).mono ?_
  rintro e w20 ⟨v, rfl, hM, hb⟩
  have HB20 := Lib.hid (HB19.out.trans (hb.mono HB19.out.size))
  have RkF := Lib.hid ((RkF.out.below hb).more hb.size)
  obtain ⟨B1, d1, B2, d2, rfl, _, _⟩ := hM.ex
  have HM := Lib.hid hM
  clear hb hM
  go_wp2_with fail
  refine (mk_kN A_kF c_kF w20 RkF.out).mono ?_
  rintro e w21 ⟨A_kN, c_kN, rfl, hr, hb⟩
  have HB21 := Lib.hid (HB20.out.trans (hb.mono HB20.out.size))
  have RkF := Lib.hid ((RkF.out.below hb).more hb.size)
  have RkN := Lib.hid hr
  replace HM := Lib.hid (HM.out.below hb hb.size)
  clear hb hr
  go_wp2_with fail
  refine (mk_kO A_kF c_kF A_kN c_kN w21 RkF.out RkN.out).mono ?_
  rintro e w22 ⟨A_kO, c_kO, rfl, hr, hb⟩
  have HB22 := Lib.hid (HB21.out.trans (hb.mono HB21.out.size))
  have RkF := Lib.hid ((RkF.out.below hb).more hb.size)
  have RkN := Lib.hid ((RkN.out.below hb).more hb.size)
  have RkO := Lib.hid hr
  replace HM := Lib.hid (HM.out.below hb hb.size)
  clear hb hr
  have HVA := Lib.hid (pValid_anyC exK _ kO A_kO kO.length c_kO w22 HM.out RkO.out kO_len (HT.out w22 HB22.out))
  rw [show validV exK kO = true from by decide +kernel, show chkF exK kO = 0 from by decide +kernel] at HVA
  go_wp2_with fail
  refine (HVA.out).mono ?_
  rintro e w23 ⟨rfl, hb⟩
  have HB23 := Lib.hid (HB22.out.trans (hb.mono HB22.out.size))
  have RkF := Lib.hid ((RkF.out.below hb).more hb.size)
  have RkN := Lib.hid ((RkN.out.below hb).more hb.size)
  have RkO := Lib.hid ((RkO.out.below hb).more hb.size)
  clear hb HVA HM
  go_wp2_with fail
  refine (exampleK_any w23).mono ?_
  rintro e w24 ⟨v, rfl, hM, hb⟩
  have HB24 := Lib.hid (HB23.out.trans (hb.mono HB23.out.size))
  have RkF := Lib.hid ((RkF.out.below hb).more hb.size)
  obtain ⟨B1, d1, B2, d2, rfl, _, _⟩ := hM.ex
  have HM := Lib.hid hM
  clear hb hM
  go_wp2_with fail
  refine (mk_kS A_kF c_kF w24 RkF.out).mono ?_
  rintro e w25 ⟨A_kS, c_kS, rfl, hr, hb⟩
  have HB25 := Lib.hid (HB24.out.trans (hb.mono HB24.out.size))
  have RkF := Lib.hid ((RkF.out.below hb).more hb.size)
  have RkS := Lib.hid hr
  replace HM := Lib.hid (HM.out.below hb hb.size)
  clear hb hr
  have HHL := Lib.hid (pHolds_anyC exK _ kS A_kS kS.length c_kS w25 HM.out RkS.out kS_len (HT.out w25 HB25.out))
  rw [show chkF exK kS = 10 from by decide +kernel] at HHL
  generalize holdV exK kS = hvkS at *
  go_wp2_with fail
  refine (HHL.out).mono ?_
  rintro e w26 ⟨rfl, hb⟩
  have HB26 := Lib.hid (HB25.out.trans (hb.mono HB25.out.size))
  have RkF := Lib.hid ((RkF.out.below hb).more hb.size)
  have RkS := Lib.hid ((RkS.out.below hb).more hb.size)
  clear hb HHL HM
  go_wp2_with fail
  refine (exampleK_any w26).mono ?_
  rintro e w27 ⟨v, rfl, hM, hb⟩
  have HB27 := Lib.hid (HB26.out.trans (hb.mono HB26.out.size))
  have RkF := Lib.hid ((RkF.out.below hb).more hb.size)
  obtain ⟨B1, d1, B2, d2, rfl, _, _⟩ := hM.ex
  have HM := Lib.hid hM
  clear hb hM
  go_wp2_with fail
  refine (mk_kK2 A_kF c_kF w27 RkF.out).mono ?_
  rintro e w28 ⟨A_kK2, c_kK2, rfl, hr, hb⟩
  have HB28 := Lib.hid (HB27.out.trans (hb.mono HB27.out.size))
  have RkF := Lib.hid ((RkF.out.below hb).more hb.size)
  have RkK2 := Lib.hid hr
  replace HM := Lib.hid (HM.out.below hb hb.size)
  clear hb hr
  have HHL := Lib.hid (pHolds_anyC exK _ kK2 A_kK2 kK2.length c_kK2 w28 HM.out RkK2.out kK2_len (HT.out w28 HB28.out))
  rw [show chkF exK kK2 = 2 from by decide +kernel] at HHL
  generalize holdV exK kK2 = hvkK2 at *
  go_wp2_with fail
  refine (HHL.out).mono ?_
  rintro e w29 ⟨rfl, hb⟩
  have HB29 := Lib.hid (HB28.out.trans (hb.mono HB28.out.size))
  have RkF := Lib.hid ((RkF.out.below hb).more hb.size)
  have RkK2 := Lib.hid ((RkK2.out.below hb).more hb.size)
  clear hb HHL HM
  go_wp2
  go_ret
  exact ⟨rfl, HB29.out⟩
end Go.Proofs.YtjpmhbnikoggaaaDoor
