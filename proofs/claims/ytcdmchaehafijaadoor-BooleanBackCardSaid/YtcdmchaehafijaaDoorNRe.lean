/- Layer 6: texts joined: Gg Gga Ggb Ggc Ggd Gi. -/
import Derived.Test.YtcdmchaehafijaaDoorNRa
import Derived.Test.YtcdmchaehafijaaDoorNRcb
import Derived.Test.YtcdmchaehafijaaDoorNRd
/- Layer 8: few operators. -/
namespace Go.Proofs.YtcdmchaehafijaaDoor
open Go.RowKit Go.Proofs.Ws Go.Maps
set_option maxRecDepth 100000
/-- what the calls on the builder give -/
def CoOk (B base bw bm : Nat) (W : World) (p : Nat × List Nd) (e : Ending) (w' : World) : Prop := e = .returned (.int .i64 (p.1 : Nat)) ∧ Hid (Bu B base bw bm w' p.2) ∧ Hid (Fb bw bm W w')
theorem Bu.drew {B base bw bm : Nat} {W : World} {o : List Nd} (h : Bu B base bw bm W o) : Bu B base bw bm W.drew o := h.below (Below.refl _ W).drew
theorem FbG.drew {bw bm : Nat} {w W : World} (h : Fb bw bm w W) : Fb bw bm w W.drew := ⟨h.os, h.tape, h.output, h.size, h.block, h.row⟩
theorem Bu.drewN {B base bw bm : Nat} {W : World} {o : List Nd} (h : Bu B base bw bm W o) (k : Nat) : Bu B base bw bm (W.drewN k) o := h.below (below_drewN (Below.refl _ _) k)
/-- a call in a region that draws its order: the node's box is as before -/
def CoKeep (B base bw bm : Nat) (W : World) (g : Nat) (n : Nd) (p : Nat × List Nd) (e : Ending) (w' : World) : Prop :=
  e = .returned (.int .i64 (p.1 : Nat)) ∧ Hid (Bu B base bw bm w' p.2) ∧ Hid (Fb bw bm W w') ∧ Hid (AsideB w' bw bm g) ∧ Hid (Box w' g n) ∧ w'.cell? ⟨g, 1, none⟩ = some (.int .i64 n.i)
theorem CoOk.keep {B base bw bm g : Nat} {W0 W : World} {n : Nd} {p : Nat × List Nd} (hF : Hid (Fb bw bm W0 W)) (ha : Hid (AsideB W bw bm g)) (hb : Hid (Box W g n)) {e : Ending} {w' : World} (hk : CoOk B base bw bm W p e w') : CoKeep B base bw bm W0 g n p e w' := by
  obtain ⟨h1, h2, h3⟩ := hk
  have hs := ha.out.step h3.out
  have hb2 := hb.out.keep hs.1
  exact ⟨h1, h2, Lib.hid (hF.out.trans h3.out), Lib.hid hs.2, Lib.hid hb2, hb2.2.1⟩
end Go.Proofs.YtcdmchaehafijaaDoor
/- Layer 8: few operators, operators 1 to 8. -/
namespace Go.Proofs.YtcdmchaehafijaaDoor
open Go.RowKit Go.Proofs.Ws Go.Maps
set_option maxRecDepth 100000
end Go.Proofs.YtcdmchaehafijaaDoor
/- Layer 8: few operators, operators 9 to 14. -/
namespace Go.Proofs.YtcdmchaehafijaaDoor
open Go.RowKit Go.Proofs.Ws Go.Maps
set_option maxRecDepth 100000
end Go.Proofs.YtcdmchaehafijaaDoor
/- Layer 8: few operators, operators 15 to 21. -/
namespace Go.Proofs.YtcdmchaehafijaaDoor
open Go.RowKit Go.Proofs.Ws Go.Maps
set_option maxRecDepth 100000
end Go.Proofs.YtcdmchaehafijaaDoor
/- Layer 8: few operators. -/
namespace Go.Proofs.YtcdmchaehafijaaDoor
open Go.RowKit Go.Proofs.Ws Go.Maps
set_option maxRecDepth 100000
end Go.Proofs.YtcdmchaehafijaaDoor
/- Layer 8: Simplify, Core, Negate of the program. -/
namespace Go.Proofs.YtcdmchaehafijaaDoor
open Go.RowKit Go.Proofs.Ws Go.Maps
set_option maxRecDepth 100000
theorem BW.begin {w : World} (t : TypeId) : BW ((w.alloc (.map #[] 0)).alloc (.cells #[.slice none 0 0, .map (some w.heap.size)] t)) (w.heap.size + 2) (w.heap.size + 1) w.heap.size [] := by
  have hmap := World.ownsMap_made w Tryd.prog 53 (plainElem (H := Unit) Tryd.prog 3)
  have s2 : (w.alloc (.map #[] 0)).heap.size = w.heap.size + 1 := by simp
  generalize w.alloc (.map #[] 0) = wb at *
  have hbx := heap_alloc_new wb (.cells #[.slice none 0 0, .map (some w.heap.size)] t)
  rw [s2] at hbx
  have hm := ownsMap_keep hmap (Below.heap_alloc wb (.cells #[.slice none 0 0, .map (some w.heap.size)] t) _ (by omega))
  have s3 : (wb.alloc (.cells #[.slice none 0 0, .map (some w.heap.size)] t)).heap.size = w.heap.size + 2 := by simp; omega
  generalize wb.alloc (.cells #[.slice none 0 0, .map (some w.heap.size)] t) = wc at *
  have hc := Lib.cell_of_heap hbx
  exact ⟨by omega, by omega, by omega, by omega, ⟨none, 0, hc 0, World.ownsRow_nil _ _ _ _⟩, Lib.frozen_of_heap hbx 0, hc 1, ⟨_, hm, MapOf.start⟩⟩
set_option maxHeartbeats 4000000 in
theorem newB_any (w : World) (hE : EnvR w w.heap.size) : Calls Tryd.prog 35 #[] w fun e w' => e = .returned (.pointer (some ⟨w.heap.size + 1, 0, none⟩)) ∧ Bu w.heap.size (w.heap.size + 2) (w.heap.size + 1) w.heap.size w' [] ∧ Below w.heap.size w w' := by
  have hmm := @run_makeMap Tryd.prog
  have HB := BW.begin (w := w) 94
  have HBL : Hid (Below w.heap.size w ((w.alloc (.map #[] 0)).alloc (.cells #[.slice none 0 0, .map (some w.heap.size)] 94))) := Lib.hid (((Below.refl _ w).alloc (Nat.le_refl _) _).alloc (by simp) _)
  replace HB := Lib.hid HB
  have HE := Lib.hid hE
  clear hE
  go_enter Tryd.func35, Tryd.ntmps35
  go_wp2_with fail
  go_ret
  exact ⟨by simp, ⟨HB.out, HE.out.below HBL.out, Nat.le_succ _, Nat.le_refl _, fun i hi => absurd hi (by simp), fun i hi => absurd hi (by simp)⟩, HBL.out⟩
/-- what a step on trees makes of a formula -/
def mapF (T : Tr → Tr) (f : List Nd) : List Nd := if fErr f = 0 then resL (T (tOf f)) else []
def mapE (T : Tr → Tr) (f : List Nd) : Int := if fErr f = 0 then resE (T (tOf f)) else fErr f
theorem take_gr {m : Nat} {p : Nat × List Nd} {o : List Nd} {t : Tr} (g : Gr m o p t) (ha : AllOk t) : compF (takeL p.2 p.1) = resL t ∧ fErr (takeL p.2 p.1) = resE t ∧ p.1 < p.2.length := by
  have hl := rep_lt g.rep
  have e := rep_tree g.bd.ops t p.1 g.ok g.rep
  have h2 := ha.2
  rw [← e] at h2
  refine ⟨?_, ?_, hl⟩
  · rw [take_comp g.bd hl h2, e]
  · rw [take_err g.bd hl h2, e]
theorem newB_ex (w : World) (hE : EnvR w w.heap.size) : Calls Tryd.prog 35 #[] w fun e w' => ∃ B base bw bm, e = .returned (.pointer (some ⟨bw, 0, none⟩)) ∧ Bu B base bw bm w' [] ∧ Below w.heap.size w w' ∧ w.heap.size ≤ B :=
  (newB_any w hE).mono (fun _ _ ⟨h1, h2, h3⟩ => ⟨_, _, _, _, h1, h2, h3, Nat.le_refl _⟩)
theorem Bu.ok {B base bw bm : Nat} {w : World} (hB : B ≤ w.heap.size) : StOk (fun W o => Bu B base bw bm W o) w B base bw bm :=
  ⟨fun _ _ h => h, fun _ _ _ h hb => h.below hb, fun W o G k v h hG ha => ⟨h.st.other ha v, h.env.below ((Below.refl _ W).setCell (by show B ≤ G; omega) v), h.b1, h.b2, h.kn, h.bd⟩⟩
theorem Si.ok {B base bw bm br : Nat} {w : World} (hB : B ≤ w.heap.size) (hb : br < w.heap.size) : StOk (fun W o => Si B base bw bm br W o) w B base bw bm :=
  ⟨fun _ _ h => h.bu, fun _ _ _ h hb => h.below hb, fun W o G k v h hG ha => ⟨(Bu.ok hB).set W o G k v h.bu hG ha, h.as_.set ha.n1 v, (World.cell?_setCell_other _ _ _ _ (fun e2 => by have h9 := congrArg Addr.block e2; dsimp only at h9; omega)).trans h.ptr⟩⟩
theorem RdA.own {w W : World} {B base bw bm n c : Nat} {A : Option Addr} {q o : List Nd} (h : Bu B base bw bm w o) (hb : Below w.heap.size w W) (hr : W.ownsRow w.heap.size 53 6 (.slice A n c) n (nds q)) : RdA W bw bm A n q :=
  RdA.of_new h hb (Reads.of_own hr) (fun ad e h0 => (hr.lt ad.block (by rw [e]; rfl)).1)
theorem sim_gr {f : List Nd} (h : fErr f = 0) : Gr (1 * (compF f).length) [] (rwP simP (compF f) []) (mapT simT (tOf f)) := by
  have ok := OkL_of (compF_ok h)
  have := rwP_ok (sim_rule (fun _ => True)) ok.ops ok.ne Bd.nil (fun _ _ => trivial)
  rw [← tOf_comp h]
  exact this
set_option maxHeartbeats 4000000 in
theorem pSimp_any (f : List Nd) (A : Option Addr) (n c : Nat) (w : World) (hE : EnvR w w.heap.size) (hR : Reads w w.heap.size 6 A n (nds f)) (hm : n ≤ maxLen) :
    Calls Tryd.prog 13 #[.slice A n c] w fun e w' => ∃ A' c', e = .returned (.tuple #[.slice A' (mapF (mapT simT) f).length c', .int .i64 (mapE (mapT simT) f)]) ∧ Reads w' w'.heap.size 6 A' (mapF (mapT simT) f).length (nds (mapF (mapT simT) f)) ∧ Below w.heap.size w w' := by
  have HV := Lib.hid (pCheck_any f A n c w hR hm)
  have HR := Lib.hid hR
  have HE := Lib.hid hE
  by_cases hz : fErr f = 0
  · have g := sim_gr hz
    have ok := OkL_of (compF_ok hz)
    have hkn := fErr_known (compF_ok hz)
    have h200 := (fErr_ok (compF_ok hz)).2.1
    have hall := mapT_all sim_keep _ (tOf_all hz)
    obtain ⟨t1, t2, t3⟩ := take_gr g hall
    have e1 : mapF (mapT simT) f = resL (mapT simT (tOf f)) := if_pos hz
    have e2 : mapE (mapT simT) f = resE (mapT simT (tOf f)) := if_pos hz
    have HC := Lib.hid (fun W (h : Reads W W.heap.size 6 A n (nds f)) => pCompact_own f A n c W h hm)
    have glen := g.len
    rw [e1, e2, ← t1, ← t2]
    have HOK := Lib.hid ok
    have HKN := Lib.hid hkn
    have HLN : Hid ((compF f).length ≤ 200) := Lib.hid h200
    have HT : Hid ((rwP simP (compF f) []).1 < (rwP simP (compF f) []).2.length ∧ (rwP simP (compF f) []).2.length ≤ 999000) := Lib.hid ⟨t3, by simp at glen; omega⟩
    rw [hz] at HV
    clear hR hE hm g ok hkn h200 hall t1 t2 t3 e1 e2 glen
    generalize compF f = q at *
    go_enter Tryd.func13, Tryd.ntmps13
    go_wp2_with fail
    refine (HV.out).mono ?_
    rintro e w1 ⟨rfl, hb⟩
    have HB1 := Lib.hid hb
    clear hb
    go_wp2_with fail
    refine (newB_ex w1 ((HE.out.below HB1.out).up HB1.out.size)).mono ?_
    rintro e w2 ⟨B, base, bw, bm, rfl, hu, hb2, hlo⟩
    have HU2 := Lib.hid hu
    have HB2 := Lib.hid (HB1.out.trans (hb2.mono HB1.out.size))
    have HLO : Hid (w.heap.size ≤ B) := Lib.hid (Nat.le_trans HB1.out.size hlo)
    clear hu hb2 hlo
    go_wp2_with fail
    have HPB := heap_alloc_new w2 (.cells #[.pointer (some ⟨bw, 0, none⟩)] 69)
    have HBA : Hid (Below w2.heap.size w2 (w2.alloc (.cells #[.pointer (some ⟨bw, 0, none⟩)] 69))) := Lib.hid ((Below.refl _ w2).alloc (Nat.le_refl _) _)
    have HSA : Hid (w2.heap.size < (w2.alloc (.cells #[.pointer (some ⟨bw, 0, none⟩)] 69)).heap.size) := Lib.hid (by simp)
    generalize w2.alloc (.cells #[.pointer (some ⟨bw, 0, none⟩)] 69) = w3 at *
    have HI3 : Hid (Si B base bw bm w2.heap.size w3 []) := Lib.hid ⟨HU2.out.below HBA.out, AsideB.new HU2.out.st HBA.out (Nat.le_refl _) HSA.out, Lib.cell_of_heap HPB 0⟩
    have HB3 := Lib.hid (HB2.out.trans (HBA.out.mono HB2.out.size))
    clear HPB
    have hp := HI3.out.ptr
    generalize w2.heap.size = br at *
    have C1 := Lib.hid (HC.out w3.drew ((HR.out.below HB3.out).more HB3.out.size))
    have HI3d := Lib.hid HI3.out.drew
    have HB3d : Hid (Below w.heap.size w w3.drew) := Lib.hid (HB3.out.trans ((Below.refl _ w3).drew.mono HB3.out.size))
    have HSd : Hid (br < w3.drew.heap.size) := HSA
    go_region_held3 (fun W' => W'.cell? ⟨br, 0, none⟩ = some (.pointer (some ⟨bw, 0, none⟩))) (first | assumption)
      (first
        | (go_at_call 9; refine (C1.out).mono ?_; rintro e' w4 ⟨A3, c3, rfl, hown, hb3⟩; have HI4 := Lib.hid (HI3d.out.below hb3); have HA4 := Lib.hid (RdA.own HI3d.out.bu hb3 hown); have HB4 := Lib.hid (HB3d.out.trans (hb3.mono HB3d.out.size)); have HS4 := Lib.hid (Nat.lt_of_lt_of_le HSd.out hb3.size); have hp4 := HI4.out.ptr; clear hown hb3)
        | (go_at_call 37; refine (rewrite_sim (sim_rule (fun _ => True)) B base bw bm br w4 (Si.ok HI4.out.bu.size HS4.out) (fun W o n h hs _ hn _ hl => (simplified_any h n hn (by omega)).mono (fun _ _ ⟨h1, h2, h3⟩ => ⟨h1, h2.out, h3.out⟩)) q [] HOK.out.ops HKN.out HOK.out.rng HOK.out.ne Bd.nil (fun _ _ => trivial) (by have := HLN.out; simp; omega) (by have := HLN.out; omega) A3 c3 HI4.out HA4.out).mono ?_; rintro e' w5 ⟨rfl, h5, hf5⟩; have HI5 := Lib.hid h5; have HB5 := Lib.hid (HB4.out.trans ((HI4.out.bu.low hf5).mono HLO.out)); have hp5 := HI5.out.ptr; clear h5 hf5)
        | (go_at_call 36; refine (take_any HI5.out.bu _ HT.out.1 HT.out.2).mono ?_; rintro e' w6 ⟨A5, c5, rfl, hr6, hb6⟩; have HR6 := Lib.hid hr6; have HB6 := Lib.hid (HB5.out.trans (hb6.mono HB5.out.size)); have hp6 := (HI5.out.below hb6).ptr; clear hr6 hb6))
    all_goals go_wp2
    all_goals go_ret2
    all_goals exact ⟨A5, c5, rfl, HR6.out, HB6.out⟩
  · have e1 : mapF (mapT simT) f = [] := if_neg hz
    have e2 : mapE (mapT simT) f = fErr f := if_neg hz
    rw [e1, e2]
    clear hR hE hm e1 e2
    generalize fErr f = ef at *
    go_enter Tryd.func13, Tryd.ntmps13
    go_wp2_with fail
    refine (HV.out).mono ?_
    rintro e w1 ⟨rfl, hb⟩
    have HB1 := Lib.hid hb
    clear hb
    go_wp2
    go_ret2
    exact ⟨none, 0, rfl, Reads.none_, HB1.out⟩
theorem up8 {W W' : World} {size n : Nat} {A : Option Addr} {xs : List Value} (h : Reads W W.heap.size size A n xs) (hb : Below W.heap.size W W') : Reads W' W'.heap.size size A n xs := (h.below hb).more hb.size
end Go.Proofs.YtcdmchaehafijaaDoor
