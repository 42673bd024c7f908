/- Layer 5: the examples of awake. -/
import Derived.Test.YtcbmncafmofcpaaMk
import Derived.Test.YtcbmncafmofcpaaMj
import Derived.Test.YtcbmncafmofcpaaMe
import Derived.Test.YtcbmncafmofcpaaMc
namespace Go.Proofs.Ws
open Go
def exF : List Nd := [⟨3, 1, 0, 0, 0, 0⟩, ⟨3, 0, 0, 0, 0, 0⟩, ⟨3, 1, 0, 0, 0, 0⟩, ⟨5, 0, 0, 0, 0, 1⟩, ⟨9, 0, 0, 0, 3, 0⟩, ⟨6, 0, 0, 0, 4, 2⟩]
def exC : List Nd := [⟨3, 1, 0, 0, 0, 0⟩, ⟨3, 0, 0, 0, 0, 0⟩, ⟨5, 0, 0, 0, 0, 1⟩, ⟨9, 0, 0, 0, 2, 0⟩, ⟨6, 0, 0, 0, 3, 0⟩]
def exN1 : List Nd := [⟨3, 1, 0, 0, 0, 0⟩]
def exN0 : List Nd := [⟨3, 0, 0, 0, 0, 0⟩]
def exA : List Nd := [⟨3, 1, 0, 0, 0, 0⟩, ⟨3, 0, 0, 0, 0, 0⟩, ⟨5, 0, 0, 0, 0, 1⟩]
def exK : List Nd := [⟨3, 1, 0, 0, 0, 0⟩, ⟨3, 0, 0, 0, 0, 0⟩, ⟨5, 0, 0, 0, 0, 1⟩, ⟨9, 0, 0, 0, 2, 0⟩]
def exC3 : List Nd := [⟨3, 1, 0, 0, 0, 0⟩, ⟨3, 0, 0, 0, 0, 0⟩, ⟨5, 0, 0, 0, 0, 1⟩]
def exB1 : List Nd := [⟨4, 0, 0, 0, 0, 0⟩]
def exB2 : List Nd := [⟨3, 8, 0, 0, 0, 0⟩]
def exB3 : List Nd := [⟨22, 0, 0, 0, 0, 0⟩]
def exB4 : List Nd := [⟨3, 0, 0, 0, 0, 0⟩, ⟨11, 0, 0, 0, 0, 0⟩]
end Go.Proofs.Ws
namespace Go.Proofs.Ytcbmncafmofcpaa
open Go.RowKit Go.Proofs.Ws Go.Maps
theorem evN1 : buildF ⟨3, 1, 0, 0, 0, 0⟩ [] = exN1 := by decide +kernel
theorem evN0 : buildF ⟨3, 0, 0, 0, 0, 0⟩ [] = exN0 := by decide +kernel
theorem evA : buildF ⟨5, 0, 0, 0, 0, 0⟩ [exN1, exN0] = exA := by decide +kernel
theorem evK : buildF ⟨9, 0, 0, 0, 0, 0⟩ [exA] = exK := by decide +kernel
theorem evO : buildF ⟨6, 0, 0, 0, 0, 0⟩ [exK, exN1] = exC := by decide +kernel
theorem evC : compF exF = exC := by decide +kernel
theorem evS : sameF exF exC = true := by decide +kernel
theorem evP : cmpF exF exC = 0 := by decide +kernel
theorem evQ : cmpF exN0 exN1 = -1 := by decide +kernel
theorem evD : depF exF = 1 := by decide +kernel
theorem evFr : maskL fragD (compF exF) = 1 := by decide +kernel
theorem evFa : maskL factD (compF exF) = 3 := by decide +kernel
theorem evAg : maskL agentD (compF exF) = 1 := by decide +kernel
theorem evT : fitsF exF 1 2 = true := by decide +kernel
theorem evU : fitsF exF 1 1 = false := by decide +kernel
theorem evSub : subF exF 3 = exC3 := by decide +kernel
theorem evL : (subsF exF).length = 5 := by decide +kernel
theorem evB1 : fErr exB1 = 3 := by decide +kernel
theorem evB2 : fErr exB2 = 2 := by decide +kernel
theorem evB3 : fErr exB3 = 10 := by decide +kernel
theorem evB4 : fErr exB4 = 2 := by decide +kernel
theorem evW : buildF ⟨9, 4, 0, 0, 0, 0⟩ [exF] = [] := by decide +kernel
theorem reads_nds (W : World) (l : List Nd) (t : TypeId) : Reads (W.alloc (.cells (nds l).toArray t)) (W.alloc (.cells (nds l).toArray t)).heap.size 6 (some ⟨W.heap.size, 0, none⟩) l.length (nds l) := by
  refine ⟨nds_length l, fun _ => ⟨_, rfl, by simp, fun j u hj => ?_⟩⟩
  have hh := heap_alloc_new W (.cells (nds l).toArray t)
  rw [addr_zero, Lib.cell_of_heap hh, ← hj]
  simp
set_option maxRecDepth 100000 in
set_option maxHeartbeats 16000000 in
theorem awake_any (w : World) : Calls Try.prog 11 #[] w fun e w' => e = .returned (.bool true) ∧ Below w.heap.size w w' := by
  have hRF0 := reads_nds w exF 44
  have hRC0 := reads_nds (w.alloc (.cells (nds exF).toArray 44)) exC 44
  have hsz : (w.alloc (.cells (nds exF).toArray 44)).heap.size = w.heap.size + 1 := by simp
  rw [hsz] at hRC0
  have hb0 : Below (w.alloc (.cells (nds exF).toArray 44)).heap.size (w.alloc (.cells (nds exF).toArray 44)) ((w.alloc (.cells (nds exF).toArray 44)).alloc (.cells (nds exC).toArray 44)) := (Below.refl _ _).alloc (Nat.le_refl _) _
  have hRF1 := (hRF0.below hb0).more hb0.size
  have HB : Hid (Below w.heap.size w ((w.alloc (.cells (nds exF).toArray 44)).alloc (.cells (nds exC).toArray 44))) := Lib.hid (((Below.refl _ w).alloc (Nat.le_refl _) _).alloc (by simp) _)
  clear hb0 hRF0 hsz
  have e1 : nds exF = [.int .i64 3, .int .i64 1, .int .i64 0, .int .i64 0, .int .i64 0, .int .i64 0, .int .i64 3, .int .i64 0, .int .i64 0, .int .i64 0, .int .i64 0, .int .i64 0, .int .i64 3, .int .i64 1, .int .i64 0, .int .i64 0, .int .i64 0, .int .i64 0, .int .i64 5, .int .i64 0, .int .i64 0, .int .i64 0, .int .i64 0, .int .i64 1, .int .i64 9, .int .i64 0, .int .i64 0, .int .i64 0, .int .i64 3, .int .i64 0, .int .i64 6, .int .i64 0, .int .i64 0, .int .i64 0, .int .i64 4, .int .i64 2] := rfl
  have e2 : nds exC = [.int .i64 3, .int .i64 1, .int .i64 0, .int .i64 0, .int .i64 0, .int .i64 0, .int .i64 3, .int .i64 0, .int .i64 0, .int .i64 0, .int .i64 0, .int .i64 0, .int .i64 5, .int .i64 0, .int .i64 0, .int .i64 0, .int .i64 0, .int .i64 1, .int .i64 9, .int .i64 0, .int .i64 0, .int .i64 0, .int .i64 2, .int .i64 0, .int .i64 6, .int .i64 0, .int .i64 0, .int .i64 0, .int .i64 3, .int .i64 0] := rfl
  rw [e1, e2] at hRF1 hRC0 HB
  rw [show exF.length = 6 from rfl] at hRF1
  rw [show exC.length = 5 from rfl] at hRC0
  go_enter Try.func11, Try.ntmps11
  go_wp2_with fail
  generalize ((w.alloc (.cells #[.int .i64 3, .int .i64 1, .int .i64 0, .int .i64 0, .int .i64 0, .int .i64 0, .int .i64 3, .int .i64 0, .int .i64 0, .int .i64 0, .int .i64 0, .int .i64 0, .int .i64 3, .int .i64 1, .int .i64 0, .int .i64 0, .int .i64 0, .int .i64 0, .int .i64 5, .int .i64 0, .int .i64 0, .int .i64 0, .int .i64 0, .int .i64 1, .int .i64 9, .int .i64 0, .int .i64 0, .int .i64 0, .int .i64 3, .int .i64 0, .int .i64 6, .int .i64 0, .int .i64 0, .int .i64 0, .int .i64 4, .int .i64 2] 44)).alloc (.cells #[.int .i64 3, .int .i64 1, .int .i64 0, .int .i64 0, .int .i64 0, .int .i64 0, .int .i64 3, .int .i64 0, .int .i64 0, .int .i64 0, .int .i64 0, .int .i64 0, .int .i64 5, .int .i64 0, .int .i64 0, .int .i64 0, .int .i64 0, .int .i64 1, .int .i64 9, .int .i64 0, .int .i64 0, .int .i64 0, .int .i64 2, .int .i64 0, .int .i64 6, .int .i64 0, .int .i64 0, .int .i64 0, .int .i64 3, .int .i64 0] 44)) = wA at *
  rw [← e1] at hRF1
  rw [← e2] at hRC0
  clear e1 e2
  have HF : Hid (∀ W, Below wA.heap.size wA W → Reads W W.heap.size 6 (some ⟨w.heap.size, 0, none⟩) 6 (nds exF)) := Lib.hid (fun W h => (hRF1.below h).more h.size)
  have HC : Hid (∀ W, Below wA.heap.size wA W → Reads W W.heap.size 6 (some ⟨w.heap.size + 1, 0, none⟩) 5 (nds exC)) := Lib.hid (fun W h => (hRC0.below h).more h.size)
  have HK := Lib.hid (Below.refl wA.heap.size wA)
  clear hRF1 hRC0
  have hq1 := pFact_any 1 wA
  rw [evN1] at hq1
  refine (hq1).mono ?_
  clear hq1
  rintro e w1 ⟨A1, c1, rfl, hR, hb⟩
  have HR1 := Lib.hid hR
  replace HK := Lib.hid (HK.out.trans (hb.mono HK.out.size))
  clear hR hb
  rw [show exN1.length = 1 from rfl] at HR1
  rw [show exN1.length = 1 from rfl]
  go_wp2_with fail
  have hq2 := pFact_any 0 w1
  rw [evN0] at hq2
  refine (hq2).mono ?_
  clear hq2
  rintro e w2 ⟨A2, c2, rfl, hR, hb⟩
  have HR2 := Lib.hid hR
  replace HR1 := Lib.hid ((HR1.out.below hb).more hb.size)
  replace HK := Lib.hid (HK.out.trans (hb.mono HK.out.size))
  clear hR hb
  rw [show exN0.length = 1 from rfl] at HR2
  rw [show exN0.length = 1 from rfl]
  go_wp2_with fail
  have hq3 := pAnd_any exN1 A1 1 c1 exN0 A2 1 c2 w2 HR1.out (by decide) HR2.out (by decide)
  rw [evA] at hq3
  refine (hq3).mono ?_
  clear hq3
  rintro e w3 ⟨A3, c3, rfl, hR, hb⟩
  have HR3 := Lib.hid hR
  replace HR1 := Lib.hid ((HR1.out.below hb).more hb.size)
  replace HR2 := Lib.hid ((HR2.out.below hb).more hb.size)
  replace HK := Lib.hid (HK.out.trans (hb.mono HK.out.size))
  clear hR hb
  rw [show exA.length = 3 from rfl] at HR3
  rw [show exA.length = 3 from rfl]
  go_wp2_with fail
  have hq4 := pKnow_any 0 exA A3 3 c3 w3 HR3.out (by decide)
  rw [evK] at hq4
  refine (hq4).mono ?_
  clear hq4
  rintro e w4 ⟨A4, c4, rfl, hR, hb⟩
  have HR4 := Lib.hid hR
  replace HR3 := Lib.hid ((HR3.out.below hb).more hb.size)
  replace HK := Lib.hid (HK.out.trans (hb.mono HK.out.size))
  clear hR hb
  rw [show exK.length = 4 from rfl] at HR4
  rw [show exK.length = 4 from rfl]
  go_wp2_with fail
  have hq5 := pFact_any 1 w4
  rw [evN1] at hq5
  refine (hq5).mono ?_
  clear hq5
  rintro e w5 ⟨A5, c5, rfl, hR, hb⟩
  have HR5 := Lib.hid hR
  replace HR4 := Lib.hid ((HR4.out.below hb).more hb.size)
  replace HK := Lib.hid (HK.out.trans (hb.mono HK.out.size))
  clear hR hb
  rw [show exN1.length = 1 from rfl] at HR5
  rw [show exN1.length = 1 from rfl]
  go_wp2_with fail
  have hq6 := pOr_any exK A4 4 c4 exN1 A5 1 c5 w5 HR4.out (by decide) HR5.out (by decide)
  rw [evO] at hq6
  refine (hq6).mono ?_
  clear hq6
  rintro e w6 ⟨A6, c6, rfl, hR, hb⟩
  have HR6 := Lib.hid hR
  replace HR4 := Lib.hid ((HR4.out.below hb).more hb.size)
  replace HR5 := Lib.hid ((HR5.out.below hb).more hb.size)
  replace HK := Lib.hid (HK.out.trans (hb.mono HK.out.size))
  clear hR hb
  rw [show exC.length = 5 from rfl] at HR6
  rw [show exC.length = 5 from rfl]
  go_wp2_with fail
  have hq7 := pCompact_any exF _ 6 6 w6 (HF.out _ HK.out) (by decide)
  rw [evC] at hq7
  refine (hq7).mono ?_
  clear hq7
  rintro e w7 ⟨A7, c7, rfl, hR, hb⟩
  have HR7 := Lib.hid hR
  replace HR6 := Lib.hid ((HR6.out.below hb).more hb.size)
  replace HK := Lib.hid (HK.out.trans (hb.mono HK.out.size))
  clear hR hb
  rw [show exC.length = 5 from rfl] at HR7
  rw [show exC.length = 5 from rfl]
  go_wp2_with fail
  have hq8 := rEqual_any exC exC A7 _ 5 5 c7 5 w7 HR7.out (HC.out _ HK.out) (by decide) (by decide)
  rw [decide_eq_true (rfl : exC = exC)] at hq8
  refine (hq8).mono ?_
  clear hq8
  rintro e w8 ⟨rfl, hb⟩
  replace HR6 := Lib.hid ((HR6.out.below hb).more hb.size)
  replace HR7 := Lib.hid ((HR7.out.below hb).more hb.size)
  replace HK := Lib.hid (HK.out.trans (hb.mono HK.out.size))
  clear hb
  go_wp2_with fail
  have hq9 := rEqual_any exC exC A6 _ 5 5 c6 5 w8 HR6.out (HC.out _ HK.out) (by decide) (by decide)
  rw [decide_eq_true (rfl : exC = exC)] at hq9
  refine (hq9).mono ?_
  clear hq9
  rintro e w9 ⟨rfl, hb⟩
  replace HR6 := Lib.hid ((HR6.out.below hb).more hb.size)
  replace HK := Lib.hid (HK.out.trans (hb.mono HK.out.size))
  clear hb
  go_wp2_with fail
  have hq10 := pSame_any exF exC _ _ 6 5 6 5 w9 (HF.out _ HK.out) (HC.out _ HK.out) (by decide) (by decide)
  rw [evS] at hq10
  refine (hq10).mono ?_
  clear hq10
  rintro e w10 ⟨rfl, hb⟩
  replace HK := Lib.hid (HK.out.trans (hb.mono HK.out.size))
  clear hb
  go_wp2_with fail
  have hq11 := pCompare_any exF exC _ _ 6 5 6 5 w10 (HF.out _ HK.out) (HC.out _ HK.out) (by decide) (by decide)
  rw [evP] at hq11
  refine (hq11).mono ?_
  clear hq11
  rintro e w11 ⟨rfl, hb⟩
  replace HK := Lib.hid (HK.out.trans (hb.mono HK.out.size))
  clear hb
  go_wp2_with fail
  have hq12 := pFact_any 0 w11
  rw [evN0] at hq12
  refine (hq12).mono ?_
  clear hq12
  rintro e w12 ⟨A12, c12, rfl, hR, hb⟩
  have HR12 := Lib.hid hR
  replace HK := Lib.hid (HK.out.trans (hb.mono HK.out.size))
  clear hR hb
  rw [show exN0.length = 1 from rfl] at HR12
  rw [show exN0.length = 1 from rfl]
  go_wp2_with fail
  have hq13 := pFact_any 1 w12
  rw [evN1] at hq13
  refine (hq13).mono ?_
  clear hq13
  rintro e w13 ⟨A13, c13, rfl, hR, hb⟩
  have HR13 := Lib.hid hR
  replace HR12 := Lib.hid ((HR12.out.below hb).more hb.size)
  replace HK := Lib.hid (HK.out.trans (hb.mono HK.out.size))
  clear hR hb
  rw [show exN1.length = 1 from rfl] at HR13
  rw [show exN1.length = 1 from rfl]
  go_wp2_with fail
  have hq14 := pCompare_any exN0 exN1 A12 A13 1 1 c12 c13 w13 HR12.out HR13.out (by decide) (by decide)
  rw [evQ] at hq14
  refine (hq14).mono ?_
  clear hq14
  rintro e w14 ⟨rfl, hb⟩
  replace HR12 := Lib.hid ((HR12.out.below hb).more hb.size)
  replace HR13 := Lib.hid ((HR13.out.below hb).more hb.size)
  replace HK := Lib.hid (HK.out.trans (hb.mono HK.out.size))
  clear hb
  go_wp2_with fail
  have K1 : Hid (∀ W, Hid (Below wA.heap.size wA W) → Calls Try.prog 27 #[.slice (some ⟨w.heap.size, 0, none⟩) 6 6] W fun e w' => e = .returned (.int .i64 5) ∧ Hid (Below wA.heap.size wA w')) := Lib.hid (fun W h => by
    have hq := pSize_any exF _ 6 6 W (HF.out W h.out) (by decide)
    rw [evC, show exC.length = 5 from rfl] at hq
    exact hq.mono (by rintro e w' ⟨rfl, hb⟩; exact ⟨rfl, Lib.hid (h.out.trans (hb.mono h.out.size))⟩))
  have K2 : Hid (∀ W, Hid (Below wA.heap.size wA W) → Calls Try.prog 14 #[.slice (some ⟨w.heap.size, 0, none⟩) 6 6] W fun e w' => e = .returned (.int .i64 1) ∧ Hid (Below wA.heap.size wA w')) := Lib.hid (fun W h => by
    have hq := pDepth_any exF _ 6 6 W (HF.out W h.out) (by decide)
    rw [evD] at hq
    exact hq.mono (by rintro e w' ⟨rfl, hb⟩; exact ⟨rfl, Lib.hid (h.out.trans (hb.mono h.out.size))⟩))
  have K3 : Hid (∀ W, Hid (Below wA.heap.size wA W) → Calls Try.prog 16 #[.slice (some ⟨w.heap.size, 0, none⟩) 6 6] W fun e w' => e = .returned (.int .i64 1) ∧ Hid (Below wA.heap.size wA w')) := Lib.hid (fun W h => by
    have hq := pFrags_any exF _ 6 6 W (HF.out W h.out) (by decide)
    rw [evFr] at hq
    exact hq.mono (by rintro e w' ⟨rfl, hb⟩; exact ⟨rfl, Lib.hid (h.out.trans (hb.mono h.out.size))⟩))
  have K4 : Hid (∀ W, Hid (Below wA.heap.size wA W) → Calls Try.prog 18 #[.slice (some ⟨w.heap.size, 0, none⟩) 6 6] W fun e w' => e = .returned (.int .i64 3) ∧ Hid (Below wA.heap.size wA w')) := Lib.hid (fun W h => by
    have hq := pFacts_any exF _ 6 6 W (HF.out W h.out) (by decide)
    rw [evFa] at hq
    exact hq.mono (by rintro e w' ⟨rfl, hb⟩; exact ⟨rfl, Lib.hid (h.out.trans (hb.mono h.out.size))⟩))
  have K5 : Hid (∀ W, Hid (Below wA.heap.size wA W) → Calls Try.prog 20 #[.slice (some ⟨w.heap.size, 0, none⟩) 6 6] W fun e w' => e = .returned (.int .i64 1) ∧ Hid (Below wA.heap.size wA w')) := Lib.hid (fun W h => by
    have hq := pAgents_any exF _ 6 6 W (HF.out W h.out) (by decide)
    rw [evAg] at hq
    exact hq.mono (by rintro e w' ⟨rfl, hb⟩; exact ⟨rfl, Lib.hid (h.out.trans (hb.mono h.out.size))⟩))
  have K6 : Hid (∀ W, Hid (Below wA.heap.size wA W) → Calls Try.prog 22 #[.slice (some ⟨w.heap.size, 0, none⟩) 6 6, .int .i64 1, .int .i64 2] W fun e w' => e = .returned (.bool true) ∧ Hid (Below wA.heap.size wA w')) := Lib.hid (fun W h => by
    have hq := pFits_any exF 1 2 _ 6 6 W (HF.out W h.out) (by decide)
    rw [evT] at hq
    exact hq.mono (by rintro e w' ⟨rfl, hb⟩; exact ⟨rfl, Lib.hid (h.out.trans (hb.mono h.out.size))⟩))
  have K7 : Hid (∀ W, Hid (Below wA.heap.size wA W) → Calls Try.prog 22 #[.slice (some ⟨w.heap.size, 0, none⟩) 6 6, .int .i64 1, .int .i64 1] W fun e w' => e = .returned (.bool false) ∧ Hid (Below wA.heap.size wA w')) := Lib.hid (fun W h => by
    have hq := pFits_any exF 1 1 _ 6 6 W (HF.out W h.out) (by decide)
    rw [evU] at hq
    exact hq.mono (by rintro e w' ⟨rfl, hb⟩; exact ⟨rfl, Lib.hid (h.out.trans (hb.mono h.out.size))⟩))
  have K8 : Hid (∀ W, Hid (Below wA.heap.size wA W) → Calls Try.prog 29 #[.slice (some ⟨w.heap.size, 0, none⟩) 6 6, .int .i64 3] W fun e w' => ∃ A' c', e = .returned (.slice A' 3 c') ∧ Hid (Reads w' w'.heap.size 6 A' 3 (nds exC3)) ∧ Hid (Below wA.heap.size wA w')) := Lib.hid (fun W h => by
    have hq := pSub_any exF 3 _ 6 6 W (by decide) (HF.out W h.out) (by decide)
    rw [evSub] at hq
    exact hq.mono (by rintro e w' ⟨A', c', rfl, hR, hb⟩; exact ⟨A', c', rfl, Lib.hid hR, Lib.hid (h.out.trans (hb.mono h.out.size))⟩))
  have K9 : Hid (∀ W A' c', Hid (Below wA.heap.size wA W) → Hid (Reads W W.heap.size 6 A' 3 (nds exC3)) → Calls Try.prog 24 #[.slice A' 3 c', .slice (some ⟨w.heap.size + 1, 0, none⟩) 3 5] W fun e w' => e = .returned (.bool true) ∧ Hid (Below wA.heap.size wA w')) := Lib.hid (fun W A' c' h hR => by
    have hq := rEqual_any exC3 (exC.take 3) A' _ 3 3 c' 5 W hR.out ((HC.out W h.out).takeN (by decide)) (by decide) (by decide)
    rw [show decide (exC3 = exC.take 3) = true from by decide +kernel] at hq
    exact hq.mono (by rintro e w' ⟨rfl, hb⟩; exact ⟨rfl, Lib.hid (h.out.trans (hb.mono h.out.size))⟩))
  have K10 : Hid (∀ W, Hid (Below wA.heap.size wA W) → Calls Try.prog 32 #[.slice (some ⟨w.heap.size, 0, none⟩) 6 6] W fun e w' => ∃ A' c', e = .returned (.slice A' 5 c') ∧ Hid (Below wA.heap.size wA w')) := Lib.hid (fun W h => by
    refine (pSubs_any exF _ 6 6 W (HF.out W h.out) (by decide)).mono ?_
    rintro e w' ⟨vv, rfl, hLL, hb⟩
    obtain ⟨vs, hrow, _⟩ := hLL.row
    rw [evL] at hrow
    obtain ⟨As, cs, rfl⟩ := own_sl hrow
    exact ⟨As, cs, rfl, Lib.hid (h.out.trans (hb.mono h.out.size))⟩)
  have K15 : Hid (∀ W, Hid (Below wA.heap.size wA W) → Calls Try.prog 48 #[.int .i64 4, .slice (some ⟨w.heap.size, 0, none⟩) 6 6] W fun e w' => ∃ A' c', e = .returned (.slice A' 0 c') ∧ Hid (Below wA.heap.size wA w')) := Lib.hid (fun W h => by
    have hq := pKnow_any 4 exF _ 6 6 W (HF.out W h.out) (by decide)
    rw [evW] at hq
    exact hq.mono (by rintro e w' ⟨A', c', rfl, hR, hb⟩; exact ⟨A', c', rfl, Lib.hid (h.out.trans (hb.mono h.out.size))⟩))
  have K11 : Hid (∀ W, Hid (Below wA.heap.size wA W) → Calls Try.prog 12 #[.slice (some ⟨W.heap.size, 0, none⟩) 1 1] (W.alloc (.cells #[.int .i64 4, .int .i64 0, .int .i64 0, .int .i64 0, .int .i64 0, .int .i64 0] 44)) fun e w' => e = .returned (.int .i64 3) ∧ Hid (Below wA.heap.size wA w')) := Lib.hid (fun W h => by
    have hR := reads_nds W exB1 44
    have hq := pCheck_any exB1 _ 1 1 _ hR (by decide)
    rw [evB1] at hq
    have hb0 : Below W.heap.size W (W.alloc (.cells (nds exB1).toArray 44)) := (Below.refl _ W).alloc (Nat.le_refl _) _
    exact hq.mono (by rintro e w' ⟨rfl, hb⟩; exact ⟨rfl, Lib.hid (h.out.trans ((hb0.trans (hb.mono hb0.size)).mono h.out.size))⟩))
  have K12 : Hid (∀ W, Hid (Below wA.heap.size wA W) → Calls Try.prog 12 #[.slice (some ⟨W.heap.size, 0, none⟩) 1 1] (W.alloc (.cells #[.int .i64 3, .int .i64 8, .int .i64 0, .int .i64 0, .int .i64 0, .int .i64 0] 44)) fun e w' => e = .returned (.int .i64 2) ∧ Hid (Below wA.heap.size wA w')) := Lib.hid (fun W h => by
    have hR := reads_nds W exB2 44
    have hq := pCheck_any exB2 _ 1 1 _ hR (by decide)
    rw [evB2] at hq
    have hb0 : Below W.heap.size W (W.alloc (.cells (nds exB2).toArray 44)) := (Below.refl _ W).alloc (Nat.le_refl _) _
    exact hq.mono (by rintro e w' ⟨rfl, hb⟩; exact ⟨rfl, Lib.hid (h.out.trans ((hb0.trans (hb.mono hb0.size)).mono h.out.size))⟩))
  have K13 : Hid (∀ W, Hid (Below wA.heap.size wA W) → Calls Try.prog 12 #[.slice (some ⟨W.heap.size, 0, none⟩) 1 1] (W.alloc (.cells #[.int .i64 22, .int .i64 0, .int .i64 0, .int .i64 0, .int .i64 0, .int .i64 0] 44)) fun e w' => e = .returned (.int .i64 10) ∧ Hid (Below wA.heap.size wA w')) := Lib.hid (fun W h => by
    have hR := reads_nds W exB3 44
    have hq := pCheck_any exB3 _ 1 1 _ hR (by decide)
    rw [evB3] at hq
    have hb0 : Below W.heap.size W (W.alloc (.cells (nds exB3).toArray 44)) := (Below.refl _ W).alloc (Nat.le_refl _) _
    exact hq.mono (by rintro e w' ⟨rfl, hb⟩; exact ⟨rfl, Lib.hid (h.out.trans ((hb0.trans (hb.mono hb0.size)).mono h.out.size))⟩))
  have K14 : Hid (∀ W, Hid (Below wA.heap.size wA W) → Calls Try.prog 12 #[.slice (some ⟨W.heap.size, 0, none⟩) 2 2] (W.alloc (.cells #[.int .i64 3, .int .i64 0, .int .i64 0, .int .i64 0, .int .i64 0, .int .i64 0, .int .i64 11, .int .i64 0, .int .i64 0, .int .i64 0, .int .i64 0, .int .i64 0] 44)) fun e w' => e = .returned (.int .i64 2) ∧ Hid (Below wA.heap.size wA w')) := Lib.hid (fun W h => by
    have hR := reads_nds W exB4 44
    have hq := pCheck_any exB4 _ 2 2 _ hR (by decide)
    rw [evB4] at hq
    have hb0 : Below W.heap.size W (W.alloc (.cells (nds exB4).toArray 44)) := (Below.refl _ W).alloc (Nat.le_refl _) _
    exact hq.mono (by rintro e w' ⟨rfl, hb⟩; exact ⟨rfl, Lib.hid (h.out.trans ((hb0.trans (hb.mono hb0.size)).mono h.out.size))⟩))
  have HD0 : Hid (Below wA.heap.size wA w14.drew) := Lib.hid HK.out.drew
  clear HF HC
  have HAL : Hid (∀ (W : World) (o : Obj), Hid (Below wA.heap.size wA W) → Hid (Below wA.heap.size wA (W.alloc o))) := Lib.hid (fun W o h => Lib.hid (h.out.alloc h.out.size o))
  dsimp only [List.append]
  have tokK6 : True := trivial
  have tokK7 : True := trivial
  have tokK11 : True := trivial
  have tokK12 : True := trivial
  have tokK13 : True := trivial
  have tokK14 : True := trivial
  go_region_held3 (fun W => Hid (Below wA.heap.size wA W)) (first | assumption | exact HAL.out _ _ (by assumption)) (first
    | (go_at_call 27; refine (K1.out _ (by assumption)).mono ?_; rintro e W' ⟨rfl, hbq⟩)
    | (go_at_call 14; refine (K2.out _ (by assumption)).mono ?_; rintro e W' ⟨rfl, hbq⟩)
    | (go_at_call 16; refine (K3.out _ (by assumption)).mono ?_; rintro e W' ⟨rfl, hbq⟩)
    | (go_at_call 18; refine (K4.out _ (by assumption)).mono ?_; rintro e W' ⟨rfl, hbq⟩)
    | (go_at_call 20; refine (K5.out _ (by assumption)).mono ?_; rintro e W' ⟨rfl, hbq⟩)
    | (have _t := tokK6; go_at_call 22; refine (K6.out _ (by assumption)).mono ?_; rintro e W' ⟨rfl, hbq⟩; clear tokK6 _t)
    | (have _t := tokK7; go_at_call 22; refine (K7.out _ (by assumption)).mono ?_; rintro e W' ⟨rfl, hbq⟩; clear tokK7 _t)
    | (go_at_call 29; refine (K8.out _ (by assumption)).mono ?_; rintro e W' ⟨As, cs, rfl, HRs, hbq⟩)
    | (go_at_call 24; refine (K9.out _ _ _ (by assumption) HRs).mono ?_; rintro e W' ⟨rfl, hbq⟩)
    | (go_at_call 32; refine (K10.out _ (by assumption)).mono ?_; rintro e W' ⟨Au, cu, rfl, hbq⟩)
    | (have _t := tokK11; go_at_call 12; refine (K11.out _ (by assumption)).mono ?_; rintro e W' ⟨rfl, hbq⟩; clear tokK11 _t)
    | (have _t := tokK12; go_at_call 12; refine (K12.out _ (by assumption)).mono ?_; rintro e W' ⟨rfl, hbq⟩; clear tokK12 _t)
    | (have _t := tokK13; go_at_call 12; refine (K13.out _ (by assumption)).mono ?_; rintro e W' ⟨rfl, hbq⟩; clear tokK13 _t)
    | (have _t := tokK14; go_at_call 12; refine (K14.out _ (by assumption)).mono ?_; rintro e W' ⟨rfl, hbq⟩; clear tokK14 _t)
    | (go_at_call 48; refine (K15.out _ (by assumption)).mono ?_; rintro e W' ⟨Ak, ck, rfl, hbq⟩))
  all_goals go_wp2
  all_goals go_ret
  all_goals exact ⟨rfl, HB.out.trans (hbq.out.mono HB.out.size)⟩
end Go.Proofs.Ytcbmncafmofcpaa
