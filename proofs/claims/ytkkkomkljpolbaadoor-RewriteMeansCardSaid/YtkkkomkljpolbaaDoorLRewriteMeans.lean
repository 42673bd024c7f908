/- Layer 8: RewriteMeans: at each world of each small model a formula, its negation normal form, its simplified form and its form with few operators are all true or all false, and its negation is false where it is true. -/
import Derived.Test.YtkkkomkljpolbaaDoorHmc
import Derived.Test.YtkkkomkljpolbaaDoorMHd
import Derived.Test.YtkkkomkljpolbaaDoorMRl
namespace Go.Proofs.YtkkkomkljpolbaaDoor.rewriteMeans
open Go.ChangeShapes Go.WideShapes Go.ChangeAt Go.RowKit Go.Proofs.YtkkkomkljpolbaaDoor Go.Proofs.YtkkkomkljpolbaaDoor.rwl Go.Proofs.Ws Go.Maps
open Go.ChangeMaps (open_string shut_string)
theorem few_any (A : Option Addr) (n c : Nat) (k : Int) (w : World) : Calls Tryd.prog 14 #[.slice A n c, .int .i64 k] w fun e w' => e = .returned (.bool (decide ((n : Int) ≤ k))) ∧ w = w' := by
  go_enter Tryd.func14, Tryd.ntmps14
  go_wp2
  go_ret
  exact ⟨rfl, rfl⟩
set_option maxRecDepth 100000 in
set_option maxHeartbeats 32000000 in
theorem walk (f : List Nd) (A0 : Option Addr) (n0 c0 : Nat) (F : Nat → Int) (T : Nat → Nat → Int) (w : World) (hE : EnvR w w.heap.size) (h0 : NdRow w A0 n0 c0 f) (hF : ∀ k, k < 4 → 0 ≤ F k ∧ F k < 256) (hT : By T) :
    Calls Tryd.prog 5 #[.slice A0 n0 c0, mV F T] w fun e w' => e = .returned (.bool true) ∧ Below w.heap.size w w' := by
  obtain ⟨hR, _, _, hm⟩ := h0
  have hl := hR.nd_len
  have HE := Lib.hid hE
  have HFE := Lib.hid (fun W : World => few_any A0 n0 c0 30 W)
  have HFI := Lib.hid (fun (W : World) (h : Below w.heap.size w W) => rFits_any f 2 8 A0 n0 c0 W (up8 hR h) hm)
  have HFR := Lib.hid (fun (W : World) (h : Below w.heap.size w W) => rFrags_any f A0 n0 c0 W (up8 hR h) hm)
  have HB0 : Hid (Below w.heap.size w (w.alloc (.cells #[.int .u8 (F 0), .int .u8 (T 0 0), .int .u8 (T 0 1), .int .u8 (F 1), .int .u8 (T 1 0), .int .u8 (T 1 1), .int .u8 (F 2), .int .u8 (T 2 0), .int .u8 (T 2 1), .int .u8 (F 3), .int .u8 (T 3 0), .int .u8 (T 3 1)] 36))) := Lib.hid ((Below.refl _ w).alloc (Nat.le_refl _) _)
  have HC0 : Hid ((w.alloc (.cells #[.int .u8 (F 0), .int .u8 (T 0 0), .int .u8 (T 0 1), .int .u8 (F 1), .int .u8 (T 1 0), .int .u8 (T 1 1), .int .u8 (F 2), .int .u8 (T 2 0), .int .u8 (T 2 1), .int .u8 (F 3), .int .u8 (T 3 0), .int .u8 (T 3 1)] 36)).heap[w.heap.size]? = some (.cells #[.int .u8 (F 0), .int .u8 (T 0 0), .int .u8 (T 0 1), .int .u8 (F 1), .int .u8 (T 1 0), .int .u8 (T 1 1), .int .u8 (F 2), .int .u8 (T 2 0), .int .u8 (T 2 1), .int .u8 (F 3), .int .u8 (T 3 0), .int .u8 (T 3 1)] 36)) := Lib.hid (heap_alloc_new w _)
  have HS0 : Hid (w.heap.size < (w.alloc (.cells #[.int .u8 (F 0), .int .u8 (T 0 0), .int .u8 (T 0 1), .int .u8 (F 1), .int .u8 (T 1 0), .int .u8 (T 1 1), .int .u8 (F 2), .int .u8 (T 2 0), .int .u8 (T 2 1), .int .u8 (F 3), .int .u8 (T 3 0), .int .u8 (T 3 1)] 36)).heap.size) := Lib.hid (by simp)
  by_cases hn : n0 ≤ 30
  · have HFE2 : Hid (∀ W, _) := Lib.hid (fun W => by have := HFE.out W; rw [decide_eq_true (show ((n0 : Nat) : Int) ≤ 30 by omega)] at this; exact this)
    replace HFE := HFE2
    clear HFE2
    by_cases hfit : fitsF f 2 8 = true
    · rw [hfit] at HFI
      by_cases hfr : bits .andNot .i64 ((maskL fragD (compF f) : Nat) : Int) 15 = 0
      · obtain ⟨hz, hst⟩ := stF_of hfit hfr
        have hfrb : (bits .andNot .i64 ((maskL fragD (compF f) : Nat) : Int) 15 != 0) = false := by rw [hfr]; rfl
        generalize maskL fragD (compF f) = mf at *
        clear hfr hfit
        have HTF := Lib.hid (fun (W : World) (h : Below w.heap.size w W) => truth_any F T f A0 n0 c0 W (up8 hR h) hm hz hst)
        have HM := Lib.hid (means_of (semM F T hT) hz (by omega) hst)
        have HTL : Hid ((trL F T (compF f) (compF f).length).getD ((compF f).length - 1) 0 = val (evT (semM F T hT) (tOf f))) := Lib.hid (tr_last hF hT hz hst)
        have HTX := Lib.hid (fun (x : List Nd) (v : B4) (h0 : fErr x = 0) (hl : x.length ≤ 200) (h1 : ∀ n ∈ compF x, stF n) (h2 : evT (semM F T hT) (tOf x) = v) (A : Option Addr) (c : Nat) (W : World) (h : Reads W W.heap.size 6 A x.length (nds x)) => by
          have := truth_any F T x A x.length c W h (by unfold maxLen; omega) h0 h1
          rw [tr_last hF hT h0 h1, h2] at this
          exact this)
        have HCK := Lib.hid (fun (x : List Nd) (h0 : fErr x = 0) (hl : x.length ≤ 200) (A : Option Addr) (c : Nat) (W : World) (h : Reads W W.heap.size 6 A x.length (nds x)) => by
          have := rCheck_any x A x.length c W h (by unfold maxLen; omega)
          rw [h0] at this
          exact this)
        rw [HTL.out] at HTF
        have HNW : Hid (bits .andNot .u8 15 (val (evT (semM F T hT) (tOf f))) = val (nB (evT (semM F T hT) (tOf f)))) := Lib.hid (v_not _)
        obtain ⟨m1, m2, ⟨m3, e3⟩, m4, e4⟩ := HM.out
        have HP1 := Lib.hid (fun (W : World) (h : Below w.heap.size w W) => pNnf_any f A0 n0 c0 W ((hE.below h).up h.size) (up8 hR h) hm)
        have HP2 := Lib.hid (fun (W : World) (h : Below w.heap.size w W) => pSimp_any f A0 n0 c0 W ((hE.below h).up h.size) (up8 hR h) hm)
        have HP3 := Lib.hid (fun (W : World) (h : Below w.heap.size w W) => pCore_any f A0 n0 c0 W ((hE.below h).up h.size) (up8 hR h) hm)
        have HP4 := Lib.hid (fun (W : World) (h : Below w.heap.size w W) => pNegate_any f A0 n0 c0 W ((hE.below h).up h.size) (up8 hR h) hm)
        rw [e3] at HP2 m3
        rw [e4] at HP4 m4
        clear HM HTL hR hm hz hst e3 e4
        generalize mapF (fun t => (nfT t).1) f = xa at *
        generalize mapE (fun t => (nfT t).1) f = ea at *
        generalize mapF (mapT simT) f = xb at *
        generalize mapF (mapT coreT) f = xc at *
        generalize mapE (mapT coreT) f = ec at *
        generalize mapF negT f = xn at *
        generalize evT (semM F T hT) (tOf f) = v at *
        have HVV : Hid ((val v != val v) = false) := Lib.hid (by simp)
        have HVN : Hid ((val (nB v) != val (nB v)) = false) := Lib.hid (by simp)
        have k3 := m3.resolve_left (fun k => absurd k.1 (by decide))
        have k4 := m4.resolve_left (fun k => absurd k.1 (by decide))
        have k1 : (ea = 8) ∨ (ea = 0 ∧ fErr xa = 0 ∧ xa.length ≤ 200 ∧ (∀ n ∈ compF xa, stF n) ∧ evT (semM F T hT) (tOf xa) = v) := m1.imp And.left id
        have k2 : (ec = 8) ∨ (ec = 0 ∧ fErr xc = 0 ∧ xc.length ≤ 200 ∧ (∀ n ∈ compF xc, stF n) ∧ evT (semM F T hT) (tOf xc) = v) := m2.imp And.left id
        have TB := Lib.hid (fun (A : Option Addr) (c : Nat) (W : World) (h : Reads W W.heap.size 6 A xb.length (nds xb)) => And.intro (HCK.out xb k3.2.1 k3.2.2.1 A c W h) (HTX.out xb v k3.2.1 k3.2.2.1 k3.2.2.2.1 k3.2.2.2.2 A c))
        have TN := Lib.hid (fun (A : Option Addr) (c : Nat) (W : World) (h : Reads W W.heap.size 6 A xn.length (nds xn)) => And.intro (HCK.out xn k4.2.1 k4.2.2.1 A c W h) (HTX.out xn (nB v) k4.2.1 k4.2.2.1 k4.2.2.2.1 k4.2.2.2.2 A c))
        have HEA : Hid (ea = 8 ∨ (ea = 0 ∧ ∀ (A : Option Addr) (c : Nat) (W : World), Reads W W.heap.size 6 A xa.length (nds xa) → _ ∧ _)) := Lib.hid (k1.imp id (fun k => ⟨k.1, fun A c W h => And.intro (HCK.out xa k.2.1 k.2.2.1 A c W h) (HTX.out xa v k.2.1 k.2.2.1 k.2.2.2.1 k.2.2.2.2 A c)⟩))
        have HEC : Hid (ec = 8 ∨ (ec = 0 ∧ ∀ (A : Option Addr) (c : Nat) (W : World), Reads W W.heap.size 6 A xc.length (nds xc) → _ ∧ _)) := Lib.hid (k2.imp id (fun k => ⟨k.1, fun A c W h => And.intro (HCK.out xc k.2.1 k.2.2.1 A c W h) (HTX.out xc v k.2.1 k.2.2.1 k.2.2.2.1 k.2.2.2.2 A c)⟩))
        clear m1 m2 m3 m4 k1 k2 k3 k4 HTX HCK
        unfold mV at *
        generalize val v = zv at *
        generalize val (nB v) = zn at *
        rcases HEA.out with hea | ⟨hea, hxa⟩
        · subst hea
          rcases HEC.out with hec | ⟨hec, hxc⟩
          · subst hec
            clear HEA HEC
            as_aux_lemma =>
              go_enter Tryd.func5, Tryd.ntmps5
              go_wp2_with fail
              generalize w.alloc (.cells #[.int .u8 (F 0), .int .u8 (T 0 0), .int .u8 (T 0 1), .int .u8 (F 1), .int .u8 (T 1 0), .int .u8 (T 1 1), .int .u8 (F 2), .int .u8 (T 2 0), .int .u8 (T 2 1), .int .u8 (F 3), .int .u8 (T 3 0), .int .u8 (T 3 1)] 36) = w0 at *
              refine (HFE.out w0).mono ?_
              rintro r wq ⟨rfl, rfl⟩
              go_wp2_with fail
              refine (HFI.out w0 HB0.out).mono ?_
              rintro r w1 ⟨rfl, hb⟩
              have HB1 := Lib.hid (HB0.out.trans (hb.mono HB0.out.size))
              have HC1 := Lib.hid ((hb.block _ HS0.out).trans HC0.out)
              have HS1 : Hid (w.heap.size < w1.heap.size) := Lib.hid (Nat.lt_of_lt_of_le HS0.out hb.size)
              clear hb
              go_wp2_with fail
              refine (HFR.out w1 HB1.out).mono ?_
              rintro r w2 ⟨rfl, hb⟩
              have HB2 := Lib.hid (HB1.out.trans (hb.mono HB1.out.size))
              have HC2 := Lib.hid ((hb.block _ HS1.out).trans HC1.out)
              have HS2 : Hid (w.heap.size < w2.heap.size) := Lib.hid (Nat.lt_of_lt_of_le HS1.out hb.size)
              clear hb
              have hcell := Lib.cell_of_heap HC2.out
              have c0 := hcell 0
              have c1 := hcell 1
              have c2 := hcell 2
              have c3 := hcell 3
              have c4 := hcell 4
              have c5 := hcell 5
              have c6 := hcell 6
              have c7 := hcell 7
              have c8 := hcell 8
              have c9 := hcell 9
              have c10 := hcell 10
              have c11 := hcell 11
              clear hcell
              simp at c0 c1 c2 c3 c4 c5 c6 c7 c8 c9 c10 c11
              go_wp2_with fail
              refine (HTF.out w2 HB2.out).mono ?_
              rintro r w3 ⟨rfl, hb⟩
              have HB3 := Lib.hid (HB2.out.trans (hb.mono HB2.out.size))
              have HC3 := Lib.hid ((hb.block _ HS2.out).trans HC2.out)
              have HS3 : Hid (w.heap.size < w3.heap.size) := Lib.hid (Nat.lt_of_lt_of_le HS2.out hb.size)
              clear hb
              clear c0 c1 c2 c3 c4 c5 c6 c7 c8 c9 c10 c11
              go_wp2_with fail
              refine (HP1.out w3 HB3.out).mono ?_
              rintro r w10 ⟨A10, d10, rfl, hr, hb⟩
              have HB10 := Lib.hid (HB3.out.trans (hb.mono HB3.out.size))
              have HC10 := Lib.hid ((hb.block _ HS3.out).trans HC3.out)
              have HS10 : Hid (w.heap.size < w10.heap.size) := Lib.hid (Nat.lt_of_lt_of_le HS3.out hb.size)
              have HR10 := Lib.hid hr
              have HBB10 := Lib.hid hb
              clear hr hb
              go_wp2_with fail
              refine (HP2.out w10 HB10.out).mono ?_
              rintro r w11 ⟨A11, d11, rfl, hr, hb⟩
              have HB11 := Lib.hid (HB10.out.trans (hb.mono HB10.out.size))
              have HC11 := Lib.hid ((hb.block _ HS10.out).trans HC10.out)
              have HS11 : Hid (w.heap.size < w11.heap.size) := Lib.hid (Nat.lt_of_lt_of_le HS10.out hb.size)
              have HR11 := Lib.hid hr
              have HBB11 := Lib.hid hb
              clear hr hb
              go_wp2_with fail
              refine (HP3.out w11 HB11.out).mono ?_
              rintro r w12 ⟨A12, d12, rfl, hr, hb⟩
              have HB12 := Lib.hid (HB11.out.trans (hb.mono HB11.out.size))
              have HC12 := Lib.hid ((hb.block _ HS11.out).trans HC11.out)
              have HS12 : Hid (w.heap.size < w12.heap.size) := Lib.hid (Nat.lt_of_lt_of_le HS11.out hb.size)
              have HR12 := Lib.hid hr
              have HBB12 := Lib.hid hb
              clear hr hb
              go_wp2_with fail
              refine (HP4.out w12 HB12.out).mono ?_
              rintro r w13 ⟨A13, d13, rfl, hr, hb⟩
              have HB13 := Lib.hid (HB12.out.trans (hb.mono HB12.out.size))
              have HC13 := Lib.hid ((hb.block _ HS12.out).trans HC12.out)
              have HS13 : Hid (w.heap.size < w13.heap.size) := Lib.hid (Nat.lt_of_lt_of_le HS12.out hb.size)
              have HR13 := Lib.hid hr
              have HBB13 := Lib.hid hb
              clear hr hb
              have HR12y := HR12
              replace HR12y := Lib.hid (up8 HR12.out HBB13.out)
              have HR11y := Lib.hid (up8 (up8 HR11.out HBB12.out) HBB13.out)
              have HR10y := Lib.hid (up8 (up8 (up8 HR10.out HBB11.out) HBB12.out) HBB13.out)
              have OB := (.cells #[.slice A10 xa.length d10, .slice A11 xb.length d11, .slice A12 xc.length d12, .slice A13 xn.length d13] 22 : Obj)
              clear OB
              have HBO : Hid (Below w13.heap.size w13 (w13.alloc (.cells #[.slice A10 xa.length d10, .slice A11 xb.length d11, .slice A12 xc.length d12, .slice A13 xn.length d13] 22))) := Lib.hid ((Below.refl _ w13).alloc (Nat.le_refl _) _)
              have HCO : Hid ((w13.alloc (.cells #[.slice A10 xa.length d10, .slice A11 xb.length d11, .slice A12 xc.length d12, .slice A13 xn.length d13] 22)).heap[w13.heap.size]? = some (.cells #[.slice A10 xa.length d10, .slice A11 xb.length d11, .slice A12 xc.length d12, .slice A13 xn.length d13] 22)) := Lib.hid (heap_alloc_new w13 _)
              have HSO : Hid (w13.heap.size < (w13.alloc (.cells #[.slice A10 xa.length d10, .slice A11 xb.length d11, .slice A12 xc.length d12, .slice A13 xn.length d13] 22)).heap.size) := Lib.hid (by simp)
              go_wp2
              generalize w13.alloc (.cells #[.slice A10 xa.length d10, .slice A11 xb.length d11, .slice A12 xc.length d12, .slice A13 xn.length d13] 22) = wp at *
              have HR13x := Lib.hid (up8 HR13.out HBO.out)
              have HR12x := Lib.hid (up8 HR12y.out HBO.out)
              have HR11x := Lib.hid (up8 HR11y.out HBO.out)
              have HR10x := Lib.hid (up8 HR10y.out HBO.out)
              have HCW := Lib.hid ((HBO.out.block _ HS13.out).trans HC13.out)
              have HSW : Hid (w.heap.size < wp.heap.size) := Lib.hid (Nat.lt_of_lt_of_le HS13.out HBO.out.size)
              have HBWP := Lib.hid (HB13.out.trans (HBO.out.mono HB13.out.size))
              go_loopw [15, 16, 17, 18, 90] (fun _ _ _ _ i wr => ∃ k : Nat, k ≤ 4 ∧ i = .int .i64 k ∧ Hid (Below wp.heap.size wp wr)) (fun _ _ _ _ i _ => 4 - (intOf i).toNat)
              case atStart => exact ⟨0, by omega, rfl, Lib.hid (Below.refl _ _)⟩
              case round =>
                obtain ⟨k, hk, rfl, HBI⟩ := hrel
                have hk5 : k = 0 ∨ k = 1 ∨ k = 2 ∨ k = 3 ∨ k = 4 := by omega
                clear hk
                have hcl := Lib.cell_of_heap ((HBI.out.block _ HSO.out).trans HCO.out)
                have hvv := HVV.out
                have hvn := HVN.out
                have hnw := HNW.out
                rcases hk5 with rfl | rfl | rfl | rfl | rfl
                · as_aux_lemma =>
                    have hk0 := hcl 0
                    clear hcl
                    simp at hk0
                    go_wp2
                    go_roundw
                    case rel => exact ⟨1, by omega, rfl, HBI⟩
                    case measure => first | (simp [intOf]; done) | (simp [intOf]; omega)
                · as_aux_lemma =>
                    have hk0 := hcl 1
                    clear hcl
                    simp at hk0
                    have HRK := Lib.hid (TB.out A11 d11 wr (up8 HR11x.out HBI.out))
                    go_wp2_with fail
                    refine (HRK.out.1).mono ?_
                    rintro r w5 ⟨rfl, hb⟩
                    have HB5 := Lib.hid (HBI.out.trans (hb.mono HBI.out.size))
                    have HR5 := Lib.hid (up8 (up8 HR11x.out HBI.out) hb)
                    have HCQ := Lib.hid ((HB5.out.block _ HSW.out).trans HCW.out)
                    clear hb HRK hk0
                    have hcell := Lib.cell_of_heap HCQ.out
                    have c0 := hcell 0
                    have c1 := hcell 1
                    have c2 := hcell 2
                    have c3 := hcell 3
                    have c4 := hcell 4
                    have c5 := hcell 5
                    have c6 := hcell 6
                    have c7 := hcell 7
                    have c8 := hcell 8
                    have c9 := hcell 9
                    have c10 := hcell 10
                    have c11 := hcell 11
                    clear hcell
                    simp at c0 c1 c2 c3 c4 c5 c6 c7 c8 c9 c10 c11
                    go_wp2_with fail
                    refine ((TB.out A11 d11 w5 HR5.out).2 w5 HR5.out).mono ?_
                    rintro r w6 ⟨rfl, hb⟩
                    have HB6 := Lib.hid (HB5.out.trans (hb.mono HB5.out.size))
                    clear hb
                    clear c0 c1 c2 c3 c4 c5 c6 c7 c8 c9 c10 c11
                    go_wp2
                    go_roundw
                    case rel => exact ⟨2, by omega, rfl, HB6⟩
                    case measure => first | (simp [intOf]; done) | (simp [intOf]; omega)
                · as_aux_lemma =>
                    have hk0 := hcl 2
                    clear hcl
                    simp at hk0
                    go_wp2
                    go_roundw
                    case rel => exact ⟨3, by omega, rfl, HBI⟩
                    case measure => first | (simp [intOf]; done) | (simp [intOf]; omega)
                · as_aux_lemma =>
                    have hk0 := hcl 3
                    clear hcl
                    simp at hk0
                    have HRK := Lib.hid (TN.out A13 d13 wr (up8 HR13x.out HBI.out))
                    go_wp2_with fail
                    refine (HRK.out.1).mono ?_
                    rintro r w5 ⟨rfl, hb⟩
                    have HB5 := Lib.hid (HBI.out.trans (hb.mono HBI.out.size))
                    have HR5 := Lib.hid (up8 (up8 HR13x.out HBI.out) hb)
                    have HCQ := Lib.hid ((HB5.out.block _ HSW.out).trans HCW.out)
                    clear hb HRK hk0
                    have hcell := Lib.cell_of_heap HCQ.out
                    have c0 := hcell 0
                    have c1 := hcell 1
                    have c2 := hcell 2
                    have c3 := hcell 3
                    have c4 := hcell 4
                    have c5 := hcell 5
                    have c6 := hcell 6
                    have c7 := hcell 7
                    have c8 := hcell 8
                    have c9 := hcell 9
                    have c10 := hcell 10
                    have c11 := hcell 11
                    clear hcell
                    simp at c0 c1 c2 c3 c4 c5 c6 c7 c8 c9 c10 c11
                    go_wp2_with fail
                    refine ((TN.out A13 d13 w5 HR5.out).2 w5 HR5.out).mono ?_
                    rintro r w6 ⟨rfl, hb⟩
                    have HB6 := Lib.hid (HB5.out.trans (hb.mono HB5.out.size))
                    clear hb
                    clear c0 c1 c2 c3 c4 c5 c6 c7 c8 c9 c10 c11
                    go_wp2
                    go_roundw
                    case rel => exact ⟨4, by omega, rfl, HB6⟩
                    case measure => first | (simp [intOf]; done) | (simp [intOf]; omega)
                · as_aux_lemma =>
                    clear hcl
                    have HBZ := Lib.hid (HBWP.out.trans (HBI.out.mono HBWP.out.size))
                    go_wp2_with fail
                    refine (awake8_any wr ((HE.out.below HBZ.out).up HBZ.out.size)).mono ?_
                    rintro r wz ⟨rfl, hbz⟩
                    have HBY := Lib.hid (HBZ.out.trans (hbz.mono HBZ.out.size))
                    clear hbz
                    go_wp2
                    go_ret
                    exact ⟨rfl, HBY.out⟩
          · subst hec
            have HXC := Lib.hid hxc
            clear HEA HEC hxc
            as_aux_lemma =>
              go_enter Tryd.func5, Tryd.ntmps5
              go_wp2_with fail
              generalize w.alloc (.cells #[.int .u8 (F 0), .int .u8 (T 0 0), .int .u8 (T 0 1), .int .u8 (F 1), .int .u8 (T 1 0), .int .u8 (T 1 1), .int .u8 (F 2), .int .u8 (T 2 0), .int .u8 (T 2 1), .int .u8 (F 3), .int .u8 (T 3 0), .int .u8 (T 3 1)] 36) = w0 at *
              refine (HFE.out w0).mono ?_
              rintro r wq ⟨rfl, rfl⟩
              go_wp2_with fail
              refine (HFI.out w0 HB0.out).mono ?_
              rintro r w1 ⟨rfl, hb⟩
              have HB1 := Lib.hid (HB0.out.trans (hb.mono HB0.out.size))
              have HC1 := Lib.hid ((hb.block _ HS0.out).trans HC0.out)
              have HS1 : Hid (w.heap.size < w1.heap.size) := Lib.hid (Nat.lt_of_lt_of_le HS0.out hb.size)
              clear hb
              go_wp2_with fail
              refine (HFR.out w1 HB1.out).mono ?_
              rintro r w2 ⟨rfl, hb⟩
              have HB2 := Lib.hid (HB1.out.trans (hb.mono HB1.out.size))
              have HC2 := Lib.hid ((hb.block _ HS1.out).trans HC1.out)
              have HS2 : Hid (w.heap.size < w2.heap.size) := Lib.hid (Nat.lt_of_lt_of_le HS1.out hb.size)
              clear hb
              have hcell := Lib.cell_of_heap HC2.out
              have c0 := hcell 0
              have c1 := hcell 1
              have c2 := hcell 2
              have c3 := hcell 3
              have c4 := hcell 4
              have c5 := hcell 5
              have c6 := hcell 6
              have c7 := hcell 7
              have c8 := hcell 8
              have c9 := hcell 9
              have c10 := hcell 10
              have c11 := hcell 11
              clear hcell
              simp at c0 c1 c2 c3 c4 c5 c6 c7 c8 c9 c10 c11
              go_wp2_with fail
              refine (HTF.out w2 HB2.out).mono ?_
              rintro r w3 ⟨rfl, hb⟩
              have HB3 := Lib.hid (HB2.out.trans (hb.mono HB2.out.size))
              have HC3 := Lib.hid ((hb.block _ HS2.out).trans HC2.out)
              have HS3 : Hid (w.heap.size < w3.heap.size) := Lib.hid (Nat.lt_of_lt_of_le HS2.out hb.size)
              clear hb
              clear c0 c1 c2 c3 c4 c5 c6 c7 c8 c9 c10 c11
              go_wp2_with fail
              refine (HP1.out w3 HB3.out).mono ?_
              rintro r w10 ⟨A10, d10, rfl, hr, hb⟩
              have HB10 := Lib.hid (HB3.out.trans (hb.mono HB3.out.size))
              have HC10 := Lib.hid ((hb.block _ HS3.out).trans HC3.out)
              have HS10 : Hid (w.heap.size < w10.heap.size) := Lib.hid (Nat.lt_of_lt_of_le HS3.out hb.size)
              have HR10 := Lib.hid hr
              have HBB10 := Lib.hid hb
              clear hr hb
              go_wp2_with fail
              refine (HP2.out w10 HB10.out).mono ?_
              rintro r w11 ⟨A11, d11, rfl, hr, hb⟩
              have HB11 := Lib.hid (HB10.out.trans (hb.mono HB10.out.size))
              have HC11 := Lib.hid ((hb.block _ HS10.out).trans HC10.out)
              have HS11 : Hid (w.heap.size < w11.heap.size) := Lib.hid (Nat.lt_of_lt_of_le HS10.out hb.size)
              have HR11 := Lib.hid hr
              have HBB11 := Lib.hid hb
              clear hr hb
              go_wp2_with fail
              refine (HP3.out w11 HB11.out).mono ?_
              rintro r w12 ⟨A12, d12, rfl, hr, hb⟩
              have HB12 := Lib.hid (HB11.out.trans (hb.mono HB11.out.size))
              have HC12 := Lib.hid ((hb.block _ HS11.out).trans HC11.out)
              have HS12 : Hid (w.heap.size < w12.heap.size) := Lib.hid (Nat.lt_of_lt_of_le HS11.out hb.size)
              have HR12 := Lib.hid hr
              have HBB12 := Lib.hid hb
              clear hr hb
              go_wp2_with fail
              refine (HP4.out w12 HB12.out).mono ?_
              rintro r w13 ⟨A13, d13, rfl, hr, hb⟩
              have HB13 := Lib.hid (HB12.out.trans (hb.mono HB12.out.size))
              have HC13 := Lib.hid ((hb.block _ HS12.out).trans HC12.out)
              have HS13 : Hid (w.heap.size < w13.heap.size) := Lib.hid (Nat.lt_of_lt_of_le HS12.out hb.size)
              have HR13 := Lib.hid hr
              have HBB13 := Lib.hid hb
              clear hr hb
              have HR12y := HR12
              replace HR12y := Lib.hid (up8 HR12.out HBB13.out)
              have HR11y := Lib.hid (up8 (up8 HR11.out HBB12.out) HBB13.out)
              have HR10y := Lib.hid (up8 (up8 (up8 HR10.out HBB11.out) HBB12.out) HBB13.out)
              have OB := (.cells #[.slice A10 xa.length d10, .slice A11 xb.length d11, .slice A12 xc.length d12, .slice A13 xn.length d13] 22 : Obj)
              clear OB
              have HBO : Hid (Below w13.heap.size w13 (w13.alloc (.cells #[.slice A10 xa.length d10, .slice A11 xb.length d11, .slice A12 xc.length d12, .slice A13 xn.length d13] 22))) := Lib.hid ((Below.refl _ w13).alloc (Nat.le_refl _) _)
              have HCO : Hid ((w13.alloc (.cells #[.slice A10 xa.length d10, .slice A11 xb.length d11, .slice A12 xc.length d12, .slice A13 xn.length d13] 22)).heap[w13.heap.size]? = some (.cells #[.slice A10 xa.length d10, .slice A11 xb.length d11, .slice A12 xc.length d12, .slice A13 xn.length d13] 22)) := Lib.hid (heap_alloc_new w13 _)
              have HSO : Hid (w13.heap.size < (w13.alloc (.cells #[.slice A10 xa.length d10, .slice A11 xb.length d11, .slice A12 xc.length d12, .slice A13 xn.length d13] 22)).heap.size) := Lib.hid (by simp)
              go_wp2
              generalize w13.alloc (.cells #[.slice A10 xa.length d10, .slice A11 xb.length d11, .slice A12 xc.length d12, .slice A13 xn.length d13] 22) = wp at *
              have HR13x := Lib.hid (up8 HR13.out HBO.out)
              have HR12x := Lib.hid (up8 HR12y.out HBO.out)
              have HR11x := Lib.hid (up8 HR11y.out HBO.out)
              have HR10x := Lib.hid (up8 HR10y.out HBO.out)
              have HCW := Lib.hid ((HBO.out.block _ HS13.out).trans HC13.out)
              have HSW : Hid (w.heap.size < wp.heap.size) := Lib.hid (Nat.lt_of_lt_of_le HS13.out HBO.out.size)
              have HBWP := Lib.hid (HB13.out.trans (HBO.out.mono HB13.out.size))
              go_loopw [15, 16, 17, 18, 90] (fun _ _ _ _ i wr => ∃ k : Nat, k ≤ 4 ∧ i = .int .i64 k ∧ Hid (Below wp.heap.size wp wr)) (fun _ _ _ _ i _ => 4 - (intOf i).toNat)
              case atStart => exact ⟨0, by omega, rfl, Lib.hid (Below.refl _ _)⟩
              case round =>
                obtain ⟨k, hk, rfl, HBI⟩ := hrel
                have hk5 : k = 0 ∨ k = 1 ∨ k = 2 ∨ k = 3 ∨ k = 4 := by omega
                clear hk
                have hcl := Lib.cell_of_heap ((HBI.out.block _ HSO.out).trans HCO.out)
                have hvv := HVV.out
                have hvn := HVN.out
                have hnw := HNW.out
                rcases hk5 with rfl | rfl | rfl | rfl | rfl
                · as_aux_lemma =>
                    have hk0 := hcl 0
                    clear hcl
                    simp at hk0
                    go_wp2
                    go_roundw
                    case rel => exact ⟨1, by omega, rfl, HBI⟩
                    case measure => first | (simp [intOf]; done) | (simp [intOf]; omega)
                · as_aux_lemma =>
                    have hk0 := hcl 1
                    clear hcl
                    simp at hk0
                    have HRK := Lib.hid (TB.out A11 d11 wr (up8 HR11x.out HBI.out))
                    go_wp2_with fail
                    refine (HRK.out.1).mono ?_
                    rintro r w5 ⟨rfl, hb⟩
                    have HB5 := Lib.hid (HBI.out.trans (hb.mono HBI.out.size))
                    have HR5 := Lib.hid (up8 (up8 HR11x.out HBI.out) hb)
                    have HCQ := Lib.hid ((HB5.out.block _ HSW.out).trans HCW.out)
                    clear hb HRK hk0
                    have hcell := Lib.cell_of_heap HCQ.out
                    have c0 := hcell 0
                    have c1 := hcell 1
                    have c2 := hcell 2
                    have c3 := hcell 3
                    have c4 := hcell 4
                    have c5 := hcell 5
                    have c6 := hcell 6
                    have c7 := hcell 7
                    have c8 := hcell 8
                    have c9 := hcell 9
                    have c10 := hcell 10
                    have c11 := hcell 11
                    clear hcell
                    simp at c0 c1 c2 c3 c4 c5 c6 c7 c8 c9 c10 c11
                    go_wp2_with fail
                    refine ((TB.out A11 d11 w5 HR5.out).2 w5 HR5.out).mono ?_
                    rintro r w6 ⟨rfl, hb⟩
                    have HB6 := Lib.hid (HB5.out.trans (hb.mono HB5.out.size))
                    clear hb
                    clear c0 c1 c2 c3 c4 c5 c6 c7 c8 c9 c10 c11
                    go_wp2
                    go_roundw
                    case rel => exact ⟨2, by omega, rfl, HB6⟩
                    case measure => first | (simp [intOf]; done) | (simp [intOf]; omega)
                · as_aux_lemma =>
                    have hk0 := hcl 2
                    clear hcl
                    simp at hk0
                    have HRK := Lib.hid (HXC.out A12 d12 wr (up8 HR12x.out HBI.out))
                    go_wp2_with fail
                    refine (HRK.out.1).mono ?_
                    rintro r w5 ⟨rfl, hb⟩
                    have HB5 := Lib.hid (HBI.out.trans (hb.mono HBI.out.size))
                    have HR5 := Lib.hid (up8 (up8 HR12x.out HBI.out) hb)
                    have HCQ := Lib.hid ((HB5.out.block _ HSW.out).trans HCW.out)
                    clear hb HRK hk0
                    have hcell := Lib.cell_of_heap HCQ.out
                    have c0 := hcell 0
                    have c1 := hcell 1
                    have c2 := hcell 2
                    have c3 := hcell 3
                    have c4 := hcell 4
                    have c5 := hcell 5
                    have c6 := hcell 6
                    have c7 := hcell 7
                    have c8 := hcell 8
                    have c9 := hcell 9
                    have c10 := hcell 10
                    have c11 := hcell 11
                    clear hcell
                    simp at c0 c1 c2 c3 c4 c5 c6 c7 c8 c9 c10 c11
                    go_wp2_with fail
                    refine ((HXC.out A12 d12 w5 HR5.out).2 w5 HR5.out).mono ?_
                    rintro r w6 ⟨rfl, hb⟩
                    have HB6 := Lib.hid (HB5.out.trans (hb.mono HB5.out.size))
                    clear hb
                    clear c0 c1 c2 c3 c4 c5 c6 c7 c8 c9 c10 c11
                    go_wp2
                    go_roundw
                    case rel => exact ⟨3, by omega, rfl, HB6⟩
                    case measure => first | (simp [intOf]; done) | (simp [intOf]; omega)
                · as_aux_lemma =>
                    have hk0 := hcl 3
                    clear hcl
                    simp at hk0
                    have HRK := Lib.hid (TN.out A13 d13 wr (up8 HR13x.out HBI.out))
                    go_wp2_with fail
                    refine (HRK.out.1).mono ?_
                    rintro r w5 ⟨rfl, hb⟩
                    have HB5 := Lib.hid (HBI.out.trans (hb.mono HBI.out.size))
                    have HR5 := Lib.hid (up8 (up8 HR13x.out HBI.out) hb)
                    have HCQ := Lib.hid ((HB5.out.block _ HSW.out).trans HCW.out)
                    clear hb HRK hk0
                    have hcell := Lib.cell_of_heap HCQ.out
                    have c0 := hcell 0
                    have c1 := hcell 1
                    have c2 := hcell 2
                    have c3 := hcell 3
                    have c4 := hcell 4
                    have c5 := hcell 5
                    have c6 := hcell 6
                    have c7 := hcell 7
                    have c8 := hcell 8
                    have c9 := hcell 9
                    have c10 := hcell 10
                    have c11 := hcell 11
                    clear hcell
                    simp at c0 c1 c2 c3 c4 c5 c6 c7 c8 c9 c10 c11
                    go_wp2_with fail
                    refine ((TN.out A13 d13 w5 HR5.out).2 w5 HR5.out).mono ?_
                    rintro r w6 ⟨rfl, hb⟩
                    have HB6 := Lib.hid (HB5.out.trans (hb.mono HB5.out.size))
                    clear hb
                    clear c0 c1 c2 c3 c4 c5 c6 c7 c8 c9 c10 c11
                    go_wp2
                    go_roundw
                    case rel => exact ⟨4, by omega, rfl, HB6⟩
                    case measure => first | (simp [intOf]; done) | (simp [intOf]; omega)
                · as_aux_lemma =>
                    clear hcl
                    have HBZ := Lib.hid (HBWP.out.trans (HBI.out.mono HBWP.out.size))
                    go_wp2_with fail
                    refine (awake8_any wr ((HE.out.below HBZ.out).up HBZ.out.size)).mono ?_
                    rintro r wz ⟨rfl, hbz⟩
                    have HBY := Lib.hid (HBZ.out.trans (hbz.mono HBZ.out.size))
                    clear hbz
                    go_wp2
                    go_ret
                    exact ⟨rfl, HBY.out⟩
        · subst hea
          have HXA := Lib.hid hxa
          rcases HEC.out with hec | ⟨hec, hxc⟩
          · subst hec
            clear HEA HEC hxa
            as_aux_lemma =>
              go_enter Tryd.func5, Tryd.ntmps5
              go_wp2_with fail
              generalize w.alloc (.cells #[.int .u8 (F 0), .int .u8 (T 0 0), .int .u8 (T 0 1), .int .u8 (F 1), .int .u8 (T 1 0), .int .u8 (T 1 1), .int .u8 (F 2), .int .u8 (T 2 0), .int .u8 (T 2 1), .int .u8 (F 3), .int .u8 (T 3 0), .int .u8 (T 3 1)] 36) = w0 at *
              refine (HFE.out w0).mono ?_
              rintro r wq ⟨rfl, rfl⟩
              go_wp2_with fail
              refine (HFI.out w0 HB0.out).mono ?_
              rintro r w1 ⟨rfl, hb⟩
              have HB1 := Lib.hid (HB0.out.trans (hb.mono HB0.out.size))
              have HC1 := Lib.hid ((hb.block _ HS0.out).trans HC0.out)
              have HS1 : Hid (w.heap.size < w1.heap.size) := Lib.hid (Nat.lt_of_lt_of_le HS0.out hb.size)
              clear hb
              go_wp2_with fail
              refine (HFR.out w1 HB1.out).mono ?_
              rintro r w2 ⟨rfl, hb⟩
              have HB2 := Lib.hid (HB1.out.trans (hb.mono HB1.out.size))
              have HC2 := Lib.hid ((hb.block _ HS1.out).trans HC1.out)
              have HS2 : Hid (w.heap.size < w2.heap.size) := Lib.hid (Nat.lt_of_lt_of_le HS1.out hb.size)
              clear hb
              have hcell := Lib.cell_of_heap HC2.out
              have c0 := hcell 0
              have c1 := hcell 1
              have c2 := hcell 2
              have c3 := hcell 3
              have c4 := hcell 4
              have c5 := hcell 5
              have c6 := hcell 6
              have c7 := hcell 7
              have c8 := hcell 8
              have c9 := hcell 9
              have c10 := hcell 10
              have c11 := hcell 11
              clear hcell
              simp at c0 c1 c2 c3 c4 c5 c6 c7 c8 c9 c10 c11
              go_wp2_with fail
              refine (HTF.out w2 HB2.out).mono ?_
              rintro r w3 ⟨rfl, hb⟩
              have HB3 := Lib.hid (HB2.out.trans (hb.mono HB2.out.size))
              have HC3 := Lib.hid ((hb.block _ HS2.out).trans HC2.out)
              have HS3 : Hid (w.heap.size < w3.heap.size) := Lib.hid (Nat.lt_of_lt_of_le HS2.out hb.size)
              clear hb
              clear c0 c1 c2 c3 c4 c5 c6 c7 c8 c9 c10 c11
              go_wp2_with fail
              refine (HP1.out w3 HB3.out).mono ?_
              rintro r w10 ⟨A10, d10, rfl, hr, hb⟩
              have HB10 := Lib.hid (HB3.out.trans (hb.mono HB3.out.size))
              have HC10 := Lib.hid ((hb.block _ HS3.out).trans HC3.out)
              have HS10 : Hid (w.heap.size < w10.heap.size) := Lib.hid (Nat.lt_of_lt_of_le HS3.out hb.size)
              have HR10 := Lib.hid hr
              have HBB10 := Lib.hid hb
              clear hr hb
              go_wp2_with fail
              refine (HP2.out w10 HB10.out).mono ?_
              rintro r w11 ⟨A11, d11, rfl, hr, hb⟩
              have HB11 := Lib.hid (HB10.out.trans (hb.mono HB10.out.size))
              have HC11 := Lib.hid ((hb.block _ HS10.out).trans HC10.out)
              have HS11 : Hid (w.heap.size < w11.heap.size) := Lib.hid (Nat.lt_of_lt_of_le HS10.out hb.size)
              have HR11 := Lib.hid hr
              have HBB11 := Lib.hid hb
              clear hr hb
              go_wp2_with fail
              refine (HP3.out w11 HB11.out).mono ?_
              rintro r w12 ⟨A12, d12, rfl, hr, hb⟩
              have HB12 := Lib.hid (HB11.out.trans (hb.mono HB11.out.size))
              have HC12 := Lib.hid ((hb.block _ HS11.out).trans HC11.out)
              have HS12 : Hid (w.heap.size < w12.heap.size) := Lib.hid (Nat.lt_of_lt_of_le HS11.out hb.size)
              have HR12 := Lib.hid hr
              have HBB12 := Lib.hid hb
              clear hr hb
              go_wp2_with fail
              refine (HP4.out w12 HB12.out).mono ?_
              rintro r w13 ⟨A13, d13, rfl, hr, hb⟩
              have HB13 := Lib.hid (HB12.out.trans (hb.mono HB12.out.size))
              have HC13 := Lib.hid ((hb.block _ HS12.out).trans HC12.out)
              have HS13 : Hid (w.heap.size < w13.heap.size) := Lib.hid (Nat.lt_of_lt_of_le HS12.out hb.size)
              have HR13 := Lib.hid hr
              have HBB13 := Lib.hid hb
              clear hr hb
              have HR12y := HR12
              replace HR12y := Lib.hid (up8 HR12.out HBB13.out)
              have HR11y := Lib.hid (up8 (up8 HR11.out HBB12.out) HBB13.out)
              have HR10y := Lib.hid (up8 (up8 (up8 HR10.out HBB11.out) HBB12.out) HBB13.out)
              have OB := (.cells #[.slice A10 xa.length d10, .slice A11 xb.length d11, .slice A12 xc.length d12, .slice A13 xn.length d13] 22 : Obj)
              clear OB
              have HBO : Hid (Below w13.heap.size w13 (w13.alloc (.cells #[.slice A10 xa.length d10, .slice A11 xb.length d11, .slice A12 xc.length d12, .slice A13 xn.length d13] 22))) := Lib.hid ((Below.refl _ w13).alloc (Nat.le_refl _) _)
              have HCO : Hid ((w13.alloc (.cells #[.slice A10 xa.length d10, .slice A11 xb.length d11, .slice A12 xc.length d12, .slice A13 xn.length d13] 22)).heap[w13.heap.size]? = some (.cells #[.slice A10 xa.length d10, .slice A11 xb.length d11, .slice A12 xc.length d12, .slice A13 xn.length d13] 22)) := Lib.hid (heap_alloc_new w13 _)
              have HSO : Hid (w13.heap.size < (w13.alloc (.cells #[.slice A10 xa.length d10, .slice A11 xb.length d11, .slice A12 xc.length d12, .slice A13 xn.length d13] 22)).heap.size) := Lib.hid (by simp)
              go_wp2
              generalize w13.alloc (.cells #[.slice A10 xa.length d10, .slice A11 xb.length d11, .slice A12 xc.length d12, .slice A13 xn.length d13] 22) = wp at *
              have HR13x := Lib.hid (up8 HR13.out HBO.out)
              have HR12x := Lib.hid (up8 HR12y.out HBO.out)
              have HR11x := Lib.hid (up8 HR11y.out HBO.out)
              have HR10x := Lib.hid (up8 HR10y.out HBO.out)
              have HCW := Lib.hid ((HBO.out.block _ HS13.out).trans HC13.out)
              have HSW : Hid (w.heap.size < wp.heap.size) := Lib.hid (Nat.lt_of_lt_of_le HS13.out HBO.out.size)
              have HBWP := Lib.hid (HB13.out.trans (HBO.out.mono HB13.out.size))
              go_loopw [15, 16, 17, 18, 90] (fun _ _ _ _ i wr => ∃ k : Nat, k ≤ 4 ∧ i = .int .i64 k ∧ Hid (Below wp.heap.size wp wr)) (fun _ _ _ _ i _ => 4 - (intOf i).toNat)
              case atStart => exact ⟨0, by omega, rfl, Lib.hid (Below.refl _ _)⟩
              case round =>
                obtain ⟨k, hk, rfl, HBI⟩ := hrel
                have hk5 : k = 0 ∨ k = 1 ∨ k = 2 ∨ k = 3 ∨ k = 4 := by omega
                clear hk
                have hcl := Lib.cell_of_heap ((HBI.out.block _ HSO.out).trans HCO.out)
                have hvv := HVV.out
                have hvn := HVN.out
                have hnw := HNW.out
                rcases hk5 with rfl | rfl | rfl | rfl | rfl
                · as_aux_lemma =>
                    have hk0 := hcl 0
                    clear hcl
                    simp at hk0
                    have HRK := Lib.hid (HXA.out A10 d10 wr (up8 HR10x.out HBI.out))
                    go_wp2_with fail
                    refine (HRK.out.1).mono ?_
                    rintro r w5 ⟨rfl, hb⟩
                    have HB5 := Lib.hid (HBI.out.trans (hb.mono HBI.out.size))
                    have HR5 := Lib.hid (up8 (up8 HR10x.out HBI.out) hb)
                    have HCQ := Lib.hid ((HB5.out.block _ HSW.out).trans HCW.out)
                    clear hb HRK hk0
                    have hcell := Lib.cell_of_heap HCQ.out
                    have c0 := hcell 0
                    have c1 := hcell 1
                    have c2 := hcell 2
                    have c3 := hcell 3
                    have c4 := hcell 4
                    have c5 := hcell 5
                    have c6 := hcell 6
                    have c7 := hcell 7
                    have c8 := hcell 8
                    have c9 := hcell 9
                    have c10 := hcell 10
                    have c11 := hcell 11
                    clear hcell
                    simp at c0 c1 c2 c3 c4 c5 c6 c7 c8 c9 c10 c11
                    go_wp2_with fail
                    refine ((HXA.out A10 d10 w5 HR5.out).2 w5 HR5.out).mono ?_
                    rintro r w6 ⟨rfl, hb⟩
                    have HB6 := Lib.hid (HB5.out.trans (hb.mono HB5.out.size))
                    clear hb
                    clear c0 c1 c2 c3 c4 c5 c6 c7 c8 c9 c10 c11
                    go_wp2
                    go_roundw
                    case rel => exact ⟨1, by omega, rfl, HB6⟩
                    case measure => first | (simp [intOf]; done) | (simp [intOf]; omega)
                · as_aux_lemma =>
                    have hk0 := hcl 1
                    clear hcl
                    simp at hk0
                    have HRK := Lib.hid (TB.out A11 d11 wr (up8 HR11x.out HBI.out))
                    go_wp2_with fail
                    refine (HRK.out.1).mono ?_
                    rintro r w5 ⟨rfl, hb⟩
                    have HB5 := Lib.hid (HBI.out.trans (hb.mono HBI.out.size))
                    have HR5 := Lib.hid (up8 (up8 HR11x.out HBI.out) hb)
                    have HCQ := Lib.hid ((HB5.out.block _ HSW.out).trans HCW.out)
                    clear hb HRK hk0
                    have hcell := Lib.cell_of_heap HCQ.out
                    have c0 := hcell 0
                    have c1 := hcell 1
                    have c2 := hcell 2
                    have c3 := hcell 3
                    have c4 := hcell 4
                    have c5 := hcell 5
                    have c6 := hcell 6
                    have c7 := hcell 7
                    have c8 := hcell 8
                    have c9 := hcell 9
                    have c10 := hcell 10
                    have c11 := hcell 11
                    clear hcell
                    simp at c0 c1 c2 c3 c4 c5 c6 c7 c8 c9 c10 c11
                    go_wp2_with fail
                    refine ((TB.out A11 d11 w5 HR5.out).2 w5 HR5.out).mono ?_
                    rintro r w6 ⟨rfl, hb⟩
                    have HB6 := Lib.hid (HB5.out.trans (hb.mono HB5.out.size))
                    clear hb
                    clear c0 c1 c2 c3 c4 c5 c6 c7 c8 c9 c10 c11
                    go_wp2
                    go_roundw
                    case rel => exact ⟨2, by omega, rfl, HB6⟩
                    case measure => first | (simp [intOf]; done) | (simp [intOf]; omega)
                · as_aux_lemma =>
                    have hk0 := hcl 2
                    clear hcl
                    simp at hk0
                    go_wp2
                    go_roundw
                    case rel => exact ⟨3, by omega, rfl, HBI⟩
                    case measure => first | (simp [intOf]; done) | (simp [intOf]; omega)
                · as_aux_lemma =>
                    have hk0 := hcl 3
                    clear hcl
                    simp at hk0
                    have HRK := Lib.hid (TN.out A13 d13 wr (up8 HR13x.out HBI.out))
                    go_wp2_with fail
                    refine (HRK.out.1).mono ?_
                    rintro r w5 ⟨rfl, hb⟩
                    have HB5 := Lib.hid (HBI.out.trans (hb.mono HBI.out.size))
                    have HR5 := Lib.hid (up8 (up8 HR13x.out HBI.out) hb)
                    have HCQ := Lib.hid ((HB5.out.block _ HSW.out).trans HCW.out)
                    clear hb HRK hk0
                    have hcell := Lib.cell_of_heap HCQ.out
                    have c0 := hcell 0
                    have c1 := hcell 1
                    have c2 := hcell 2
                    have c3 := hcell 3
                    have c4 := hcell 4
                    have c5 := hcell 5
                    have c6 := hcell 6
                    have c7 := hcell 7
                    have c8 := hcell 8
                    have c9 := hcell 9
                    have c10 := hcell 10
                    have c11 := hcell 11
                    clear hcell
                    simp at c0 c1 c2 c3 c4 c5 c6 c7 c8 c9 c10 c11
                    go_wp2_with fail
                    refine ((TN.out A13 d13 w5 HR5.out).2 w5 HR5.out).mono ?_
                    rintro r w6 ⟨rfl, hb⟩
                    have HB6 := Lib.hid (HB5.out.trans (hb.mono HB5.out.size))
                    clear hb
                    clear c0 c1 c2 c3 c4 c5 c6 c7 c8 c9 c10 c11
                    go_wp2
                    go_roundw
                    case rel => exact ⟨4, by omega, rfl, HB6⟩
                    case measure => first | (simp [intOf]; done) | (simp [intOf]; omega)
                · as_aux_lemma =>
                    clear hcl
                    have HBZ := Lib.hid (HBWP.out.trans (HBI.out.mono HBWP.out.size))
                    go_wp2_with fail
                    refine (awake8_any wr ((HE.out.below HBZ.out).up HBZ.out.size)).mono ?_
                    rintro r wz ⟨rfl, hbz⟩
                    have HBY := Lib.hid (HBZ.out.trans (hbz.mono HBZ.out.size))
                    clear hbz
                    go_wp2
                    go_ret
                    exact ⟨rfl, HBY.out⟩
          · subst hec
            have HXC := Lib.hid hxc
            clear HEA HEC hxa hxc
            as_aux_lemma =>
              go_enter Tryd.func5, Tryd.ntmps5
              go_wp2_with fail
              generalize w.alloc (.cells #[.int .u8 (F 0), .int .u8 (T 0 0), .int .u8 (T 0 1), .int .u8 (F 1), .int .u8 (T 1 0), .int .u8 (T 1 1), .int .u8 (F 2), .int .u8 (T 2 0), .int .u8 (T 2 1), .int .u8 (F 3), .int .u8 (T 3 0), .int .u8 (T 3 1)] 36) = w0 at *
              refine (HFE.out w0).mono ?_
              rintro r wq ⟨rfl, rfl⟩
              go_wp2_with fail
              refine (HFI.out w0 HB0.out).mono ?_
              rintro r w1 ⟨rfl, hb⟩
              have HB1 := Lib.hid (HB0.out.trans (hb.mono HB0.out.size))
              have HC1 := Lib.hid ((hb.block _ HS0.out).trans HC0.out)
              have HS1 : Hid (w.heap.size < w1.heap.size) := Lib.hid (Nat.lt_of_lt_of_le HS0.out hb.size)
              clear hb
              go_wp2_with fail
              refine (HFR.out w1 HB1.out).mono ?_
              rintro r w2 ⟨rfl, hb⟩
              have HB2 := Lib.hid (HB1.out.trans (hb.mono HB1.out.size))
              have HC2 := Lib.hid ((hb.block _ HS1.out).trans HC1.out)
              have HS2 : Hid (w.heap.size < w2.heap.size) := Lib.hid (Nat.lt_of_lt_of_le HS1.out hb.size)
              clear hb
              have hcell := Lib.cell_of_heap HC2.out
              have c0 := hcell 0
              have c1 := hcell 1
              have c2 := hcell 2
              have c3 := hcell 3
              have c4 := hcell 4
              have c5 := hcell 5
              have c6 := hcell 6
              have c7 := hcell 7
              have c8 := hcell 8
              have c9 := hcell 9
              have c10 := hcell 10
              have c11 := hcell 11
              clear hcell
              simp at c0 c1 c2 c3 c4 c5 c6 c7 c8 c9 c10 c11
              go_wp2_with fail
              refine (HTF.out w2 HB2.out).mono ?_
              rintro r w3 ⟨rfl, hb⟩
              have HB3 := Lib.hid (HB2.out.trans (hb.mono HB2.out.size))
              have HC3 := Lib.hid ((hb.block _ HS2.out).trans HC2.out)
              have HS3 : Hid (w.heap.size < w3.heap.size) := Lib.hid (Nat.lt_of_lt_of_le HS2.out hb.size)
              clear hb
              clear c0 c1 c2 c3 c4 c5 c6 c7 c8 c9 c10 c11
              go_wp2_with fail
              refine (HP1.out w3 HB3.out).mono ?_
              rintro r w10 ⟨A10, d10, rfl, hr, hb⟩
              have HB10 := Lib.hid (HB3.out.trans (hb.mono HB3.out.size))
              have HC10 := Lib.hid ((hb.block _ HS3.out).trans HC3.out)
              have HS10 : Hid (w.heap.size < w10.heap.size) := Lib.hid (Nat.lt_of_lt_of_le HS3.out hb.size)
              have HR10 := Lib.hid hr
              have HBB10 := Lib.hid hb
              clear hr hb
              go_wp2_with fail
              refine (HP2.out w10 HB10.out).mono ?_
              rintro r w11 ⟨A11, d11, rfl, hr, hb⟩
              have HB11 := Lib.hid (HB10.out.trans (hb.mono HB10.out.size))
              have HC11 := Lib.hid ((hb.block _ HS10.out).trans HC10.out)
              have HS11 : Hid (w.heap.size < w11.heap.size) := Lib.hid (Nat.lt_of_lt_of_le HS10.out hb.size)
              have HR11 := Lib.hid hr
              have HBB11 := Lib.hid hb
              clear hr hb
              go_wp2_with fail
              refine (HP3.out w11 HB11.out).mono ?_
              rintro r w12 ⟨A12, d12, rfl, hr, hb⟩
              have HB12 := Lib.hid (HB11.out.trans (hb.mono HB11.out.size))
              have HC12 := Lib.hid ((hb.block _ HS11.out).trans HC11.out)
              have HS12 : Hid (w.heap.size < w12.heap.size) := Lib.hid (Nat.lt_of_lt_of_le HS11.out hb.size)
              have HR12 := Lib.hid hr
              have HBB12 := Lib.hid hb
              clear hr hb
              go_wp2_with fail
              refine (HP4.out w12 HB12.out).mono ?_
              rintro r w13 ⟨A13, d13, rfl, hr, hb⟩
              have HB13 := Lib.hid (HB12.out.trans (hb.mono HB12.out.size))
              have HC13 := Lib.hid ((hb.block _ HS12.out).trans HC12.out)
              have HS13 : Hid (w.heap.size < w13.heap.size) := Lib.hid (Nat.lt_of_lt_of_le HS12.out hb.size)
              have HR13 := Lib.hid hr
              have HBB13 := Lib.hid hb
              clear hr hb
              have HR12y := HR12
              replace HR12y := Lib.hid (up8 HR12.out HBB13.out)
              have HR11y := Lib.hid (up8 (up8 HR11.out HBB12.out) HBB13.out)
              have HR10y := Lib.hid (up8 (up8 (up8 HR10.out HBB11.out) HBB12.out) HBB13.out)
              have OB := (.cells #[.slice A10 xa.length d10, .slice A11 xb.length d11, .slice A12 xc.length d12, .slice A13 xn.length d13] 22 : Obj)
              clear OB
              have HBO : Hid (Below w13.heap.size w13 (w13.alloc (.cells #[.slice A10 xa.length d10, .slice A11 xb.length d11, .slice A12 xc.length d12, .slice A13 xn.length d13] 22))) := Lib.hid ((Below.refl _ w13).alloc (Nat.le_refl _) _)
              have HCO : Hid ((w13.alloc (.cells #[.slice A10 xa.length d10, .slice A11 xb.length d11, .slice A12 xc.length d12, .slice A13 xn.length d13] 22)).heap[w13.heap.size]? = some (.cells #[.slice A10 xa.length d10, .slice A11 xb.length d11, .slice A12 xc.length d12, .slice A13 xn.length d13] 22)) := Lib.hid (heap_alloc_new w13 _)
              have HSO : Hid (w13.heap.size < (w13.alloc (.cells #[.slice A10 xa.length d10, .slice A11 xb.length d11, .slice A12 xc.length d12, .slice A13 xn.length d13] 22)).heap.size) := Lib.hid (by simp)
              go_wp2
              generalize w13.alloc (.cells #[.slice A10 xa.length d10, .slice A11 xb.length d11, .slice A12 xc.length d12, .slice A13 xn.length d13] 22) = wp at *
              have HR13x := Lib.hid (up8 HR13.out HBO.out)
              have HR12x := Lib.hid (up8 HR12y.out HBO.out)
              have HR11x := Lib.hid (up8 HR11y.out HBO.out)
              have HR10x := Lib.hid (up8 HR10y.out HBO.out)
              have HCW := Lib.hid ((HBO.out.block _ HS13.out).trans HC13.out)
              have HSW : Hid (w.heap.size < wp.heap.size) := Lib.hid (Nat.lt_of_lt_of_le HS13.out HBO.out.size)
              have HBWP := Lib.hid (HB13.out.trans (HBO.out.mono HB13.out.size))
              go_loopw [15, 16, 17, 18, 90] (fun _ _ _ _ i wr => ∃ k : Nat, k ≤ 4 ∧ i = .int .i64 k ∧ Hid (Below wp.heap.size wp wr)) (fun _ _ _ _ i _ => 4 - (intOf i).toNat)
              case atStart => exact ⟨0, by omega, rfl, Lib.hid (Below.refl _ _)⟩
              case round =>
                obtain ⟨k, hk, rfl, HBI⟩ := hrel
                have hk5 : k = 0 ∨ k = 1 ∨ k = 2 ∨ k = 3 ∨ k = 4 := by omega
                clear hk
                have hcl := Lib.cell_of_heap ((HBI.out.block _ HSO.out).trans HCO.out)
                have hvv := HVV.out
                have hvn := HVN.out
                have hnw := HNW.out
                rcases hk5 with rfl | rfl | rfl | rfl | rfl
                · as_aux_lemma =>
                    have hk0 := hcl 0
                    clear hcl
                    simp at hk0
                    have HRK := Lib.hid (HXA.out A10 d10 wr (up8 HR10x.out HBI.out))
                    go_wp2_with fail
                    refine (HRK.out.1).mono ?_
                    rintro r w5 ⟨rfl, hb⟩
                    have HB5 := Lib.hid (HBI.out.trans (hb.mono HBI.out.size))
                    have HR5 := Lib.hid (up8 (up8 HR10x.out HBI.out) hb)
                    have HCQ := Lib.hid ((HB5.out.block _ HSW.out).trans HCW.out)
                    clear hb HRK hk0
                    have hcell := Lib.cell_of_heap HCQ.out
                    have c0 := hcell 0
                    have c1 := hcell 1
                    have c2 := hcell 2
                    have c3 := hcell 3
                    have c4 := hcell 4
                    have c5 := hcell 5
                    have c6 := hcell 6
                    have c7 := hcell 7
                    have c8 := hcell 8
                    have c9 := hcell 9
                    have c10 := hcell 10
                    have c11 := hcell 11
                    clear hcell
                    simp at c0 c1 c2 c3 c4 c5 c6 c7 c8 c9 c10 c11
                    go_wp2_with fail
                    refine ((HXA.out A10 d10 w5 HR5.out).2 w5 HR5.out).mono ?_
                    rintro r w6 ⟨rfl, hb⟩
                    have HB6 := Lib.hid (HB5.out.trans (hb.mono HB5.out.size))
                    clear hb
                    clear c0 c1 c2 c3 c4 c5 c6 c7 c8 c9 c10 c11
                    go_wp2
                    go_roundw
                    case rel => exact ⟨1, by omega, rfl, HB6⟩
                    case measure => first | (simp [intOf]; done) | (simp [intOf]; omega)
                · as_aux_lemma =>
                    have hk0 := hcl 1
                    clear hcl
                    simp at hk0
                    have HRK := Lib.hid (TB.out A11 d11 wr (up8 HR11x.out HBI.out))
                    go_wp2_with fail
                    refine (HRK.out.1).mono ?_
                    rintro r w5 ⟨rfl, hb⟩
                    have HB5 := Lib.hid (HBI.out.trans (hb.mono HBI.out.size))
                    have HR5 := Lib.hid (up8 (up8 HR11x.out HBI.out) hb)
                    have HCQ := Lib.hid ((HB5.out.block _ HSW.out).trans HCW.out)
                    clear hb HRK hk0
                    have hcell := Lib.cell_of_heap HCQ.out
                    have c0 := hcell 0
                    have c1 := hcell 1
                    have c2 := hcell 2
                    have c3 := hcell 3
                    have c4 := hcell 4
                    have c5 := hcell 5
                    have c6 := hcell 6
                    have c7 := hcell 7
                    have c8 := hcell 8
                    have c9 := hcell 9
                    have c10 := hcell 10
                    have c11 := hcell 11
                    clear hcell
                    simp at c0 c1 c2 c3 c4 c5 c6 c7 c8 c9 c10 c11
                    go_wp2_with fail
                    refine ((TB.out A11 d11 w5 HR5.out).2 w5 HR5.out).mono ?_
                    rintro r w6 ⟨rfl, hb⟩
                    have HB6 := Lib.hid (HB5.out.trans (hb.mono HB5.out.size))
                    clear hb
                    clear c0 c1 c2 c3 c4 c5 c6 c7 c8 c9 c10 c11
                    go_wp2
                    go_roundw
                    case rel => exact ⟨2, by omega, rfl, HB6⟩
                    case measure => first | (simp [intOf]; done) | (simp [intOf]; omega)
                · as_aux_lemma =>
                    have hk0 := hcl 2
                    clear hcl
                    simp at hk0
                    have HRK := Lib.hid (HXC.out A12 d12 wr (up8 HR12x.out HBI.out))
                    go_wp2_with fail
                    refine (HRK.out.1).mono ?_
                    rintro r w5 ⟨rfl, hb⟩
                    have HB5 := Lib.hid (HBI.out.trans (hb.mono HBI.out.size))
                    have HR5 := Lib.hid (up8 (up8 HR12x.out HBI.out) hb)
                    have HCQ := Lib.hid ((HB5.out.block _ HSW.out).trans HCW.out)
                    clear hb HRK hk0
                    have hcell := Lib.cell_of_heap HCQ.out
                    have c0 := hcell 0
                    have c1 := hcell 1
                    have c2 := hcell 2
                    have c3 := hcell 3
                    have c4 := hcell 4
                    have c5 := hcell 5
                    have c6 := hcell 6
                    have c7 := hcell 7
                    have c8 := hcell 8
                    have c9 := hcell 9
                    have c10 := hcell 10
                    have c11 := hcell 11
                    clear hcell
                    simp at c0 c1 c2 c3 c4 c5 c6 c7 c8 c9 c10 c11
                    go_wp2_with fail
                    refine ((HXC.out A12 d12 w5 HR5.out).2 w5 HR5.out).mono ?_
                    rintro r w6 ⟨rfl, hb⟩
                    have HB6 := Lib.hid (HB5.out.trans (hb.mono HB5.out.size))
                    clear hb
                    clear c0 c1 c2 c3 c4 c5 c6 c7 c8 c9 c10 c11
                    go_wp2
                    go_roundw
                    case rel => exact ⟨3, by omega, rfl, HB6⟩
                    case measure => first | (simp [intOf]; done) | (simp [intOf]; omega)
                · as_aux_lemma =>
                    have hk0 := hcl 3
                    clear hcl
                    simp at hk0
                    have HRK := Lib.hid (TN.out A13 d13 wr (up8 HR13x.out HBI.out))
                    go_wp2_with fail
                    refine (HRK.out.1).mono ?_
                    rintro r w5 ⟨rfl, hb⟩
                    have HB5 := Lib.hid (HBI.out.trans (hb.mono HBI.out.size))
                    have HR5 := Lib.hid (up8 (up8 HR13x.out HBI.out) hb)
                    have HCQ := Lib.hid ((HB5.out.block _ HSW.out).trans HCW.out)
                    clear hb HRK hk0
                    have hcell := Lib.cell_of_heap HCQ.out
                    have c0 := hcell 0
                    have c1 := hcell 1
                    have c2 := hcell 2
                    have c3 := hcell 3
                    have c4 := hcell 4
                    have c5 := hcell 5
                    have c6 := hcell 6
                    have c7 := hcell 7
                    have c8 := hcell 8
                    have c9 := hcell 9
                    have c10 := hcell 10
                    have c11 := hcell 11
                    clear hcell
                    simp at c0 c1 c2 c3 c4 c5 c6 c7 c8 c9 c10 c11
                    go_wp2_with fail
                    refine ((TN.out A13 d13 w5 HR5.out).2 w5 HR5.out).mono ?_
                    rintro r w6 ⟨rfl, hb⟩
                    have HB6 := Lib.hid (HB5.out.trans (hb.mono HB5.out.size))
                    clear hb
                    clear c0 c1 c2 c3 c4 c5 c6 c7 c8 c9 c10 c11
                    go_wp2
                    go_roundw
                    case rel => exact ⟨4, by omega, rfl, HB6⟩
                    case measure => first | (simp [intOf]; done) | (simp [intOf]; omega)
                · as_aux_lemma =>
                    clear hcl
                    have HBZ := Lib.hid (HBWP.out.trans (HBI.out.mono HBWP.out.size))
                    go_wp2_with fail
                    refine (awake8_any wr ((HE.out.below HBZ.out).up HBZ.out.size)).mono ?_
                    rintro r wz ⟨rfl, hbz⟩
                    have HBY := Lib.hid (HBZ.out.trans (hbz.mono HBZ.out.size))
                    clear hbz
                    go_wp2
                    go_ret
                    exact ⟨rfl, HBY.out⟩
      · have hfrb : (bits .andNot .i64 ((maskL fragD (compF f) : Nat) : Int) 15 != 0) = true := by simpa using hfr
        generalize maskL fragD (compF f) = mf at *
        unfold mV at *
        clear hfr hfit hR hl hm hE
        go_enter Tryd.func5, Tryd.ntmps5
        go_wp2_with fail
        generalize w.alloc (.cells #[.int .u8 (F 0), .int .u8 (T 0 0), .int .u8 (T 0 1), .int .u8 (F 1), .int .u8 (T 1 0), .int .u8 (T 1 1), .int .u8 (F 2), .int .u8 (T 2 0), .int .u8 (T 2 1), .int .u8 (F 3), .int .u8 (T 3 0), .int .u8 (T 3 1)] 36) = w0 at *
        refine (HFE.out w0).mono ?_
        rintro r wq ⟨rfl, rfl⟩
        go_wp2_with fail
        refine (HFI.out w0 HB0.out).mono ?_
        rintro r w1 ⟨rfl, hb⟩
        have HB1 := Lib.hid (HB0.out.trans (hb.mono HB0.out.size))
        have HC1 := Lib.hid ((hb.block _ HS0.out).trans HC0.out)
        have HS1 : Hid (w.heap.size < w1.heap.size) := Lib.hid (Nat.lt_of_lt_of_le HS0.out hb.size)
        clear hb
        go_wp2_with fail
        refine (HFR.out w1 HB1.out).mono ?_
        rintro r w2 ⟨rfl, hb⟩
        have HB2 := Lib.hid (HB1.out.trans (hb.mono HB1.out.size))
        have HC2 := Lib.hid ((hb.block _ HS1.out).trans HC1.out)
        have HS2 : Hid (w.heap.size < w2.heap.size) := Lib.hid (Nat.lt_of_lt_of_le HS1.out hb.size)
        clear hb
        go_wp2_with fail
        refine (awake8_any w2 ((HE.out.below HB2.out).up HB2.out.size)).mono ?_
        rintro r wz ⟨rfl, hbz⟩
        have HBY := Lib.hid (HB2.out.trans (hbz.mono HB2.out.size))
        clear hbz
        go_wp2
        go_ret
        exact ⟨rfl, HBY.out⟩
    · have hfitb : fitsF f 2 8 = false := by simpa using hfit
      rw [hfitb] at HFI
      unfold mV at *
      clear hfit hfitb hR hl hm hE HFR
      go_enter Tryd.func5, Tryd.ntmps5
      go_wp2_with fail
      generalize w.alloc (.cells #[.int .u8 (F 0), .int .u8 (T 0 0), .int .u8 (T 0 1), .int .u8 (F 1), .int .u8 (T 1 0), .int .u8 (T 1 1), .int .u8 (F 2), .int .u8 (T 2 0), .int .u8 (T 2 1), .int .u8 (F 3), .int .u8 (T 3 0), .int .u8 (T 3 1)] 36) = w0 at *
      refine (HFE.out w0).mono ?_
      rintro r wq ⟨rfl, rfl⟩
      go_wp2_with fail
      refine (HFI.out w0 HB0.out).mono ?_
      rintro r w1 ⟨rfl, hb⟩
      have HB1 := Lib.hid (HB0.out.trans (hb.mono HB0.out.size))
      have HC1 := Lib.hid ((hb.block _ HS0.out).trans HC0.out)
      have HS1 : Hid (w.heap.size < w1.heap.size) := Lib.hid (Nat.lt_of_lt_of_le HS0.out hb.size)
      clear hb
      go_wp2_with fail
      refine (awake8_any w1 ((HE.out.below HB1.out).up HB1.out.size)).mono ?_
      rintro r wz ⟨rfl, hbz⟩
      have HBY := Lib.hid (HB1.out.trans (hbz.mono HB1.out.size))
      clear hbz
      go_wp2
      go_ret
      exact ⟨rfl, HBY.out⟩
  · have HFE2 : Hid (∀ W, _) := Lib.hid (fun W => by have := HFE.out W; rw [decide_eq_false (show ¬ ((n0 : Nat) : Int) ≤ 30 by omega)] at this; exact this)
    replace HFE := HFE2
    clear HFE2
    unfold mV at *
    clear hR hl hm hE HFR HFI
    go_enter Tryd.func5, Tryd.ntmps5
    go_wp2_with fail
    generalize w.alloc (.cells #[.int .u8 (F 0), .int .u8 (T 0 0), .int .u8 (T 0 1), .int .u8 (F 1), .int .u8 (T 1 0), .int .u8 (T 1 1), .int .u8 (F 2), .int .u8 (T 2 0), .int .u8 (T 2 1), .int .u8 (F 3), .int .u8 (T 3 0), .int .u8 (T 3 1)] 36) = w0 at *
    refine (HFE.out w0).mono ?_
    rintro r wq ⟨rfl, rfl⟩
    go_wp2_with fail
    refine (awake8_any w0 ((HE.out.below HB0.out).up HB0.out.size)).mono ?_
    rintro r wz ⟨rfl, hbz⟩
    have HBY := Lib.hid (HB0.out.trans (hbz.mono HB0.out.size))
    clear hbz
    go_wp2
    go_ret
    exact ⟨rfl, HBY.out⟩
set_option maxRecDepth 100000 in
theorem contract (H : Type) (enc : TypeId × Value → H) (W : World) (base : Nat) (args : Array Value) (ds gs : List (DataW H)) (before : List MemPlace)
    (hval : ∀ (j : Nat) t v, Tryd.f5.params[j]? = some t → args[j]? = some v → Value.okWide Tryd.prog W .any base t v)
    (hW : DataW.Whole enc Tryd.prog Tryd.f5.params.toList Rows.rewriteMeansSpec.vars false W args.toList ds gs before) (hE : EnvR W W.heap.size) :
    Calls Tryd.prog 5 args W fun e W' => ∃ v, e = .returned v ∧ Rows.rewriteMeansSpec.post enc Tryd.prog Tryd.f5 false true false false W args v W' := by
  have hW' := hW
  obtain ⟨p, q, hA0, hV, rfl, hfz, hnd⟩ := hW
  have hA : DataW.TrodAll enc Tryd.prog W 0 (fun _ => true) true Tryd.f5.params.toList args.toList ds p := hA0
  rw [Tryd.params5] at hA hval
  obtain ⟨v0, vs0, d0, ds0, p0, q0, hargs, rfl, rfl, h0, r0⟩ := trodAll_cons hA
  obtain ⟨v1, vs1, d1, ds1, p1, q1, rfl, rfl, rfl, h1, r1⟩ := trodAll_cons r0
  obtain ⟨rfl, rfl, rfl⟩ := trodAll_nil r1
  obtain rfl : args = #[v0, v1] := by cases args; simp_all
  obtain ⟨rfl, rfl⟩ := trodVars_none hV
  obtain ⟨af0, nf0, cf0, rfl⟩ := okWide_slice Tryd.underlying22 (hval 0 22 v0 rfl rfl)
  obtain ⟨f0, w0⟩ : ∃ l, NdRow W af0 nf0 cf0 l := by
    obtain ⟨fuel, hf⟩ := h0
    exact open_nodes hf
  have k0 := h0
  have lt0 : ∀ x ∈ p0, x.block < W.heap.size := by obtain ⟨m, hm⟩ := k0; exact DataW.trod_lt m _ _ _ hm
  obtain ⟨F1, T1, rfl, wF1, wT1⟩ := open_mod h1
  have k1 := h1
  have lt1 : ∀ x ∈ p1, x.block < W.heap.size := by obtain ⟨m, hm⟩ := k1; exact DataW.trod_lt m _ _ _ hm
  clear hA0
  have hwalk := walk f0 af0 nf0 cf0 F1 T1 W hE w0 wF1 wT1
  refine hwalk.mono fun e W' ⟨he, hg⟩ => ?_
  subst he
  exact ⟨_, rfl, _, _, _, [], _, [], hW', trodAll_mk1 (shut_bool Tryd.underlying4 _), (trodAll_cons_mk (Below.trod laidOut (by kernel_rfl) (of_decide_eq_true (by kernel_rfl)) k0 hg lt0) (trodAll_cons_mk (Below.trod laidOut (by kernel_rfl) (of_decide_eq_true (by kernel_rfl)) k1 hg lt1) trodAll_mk0)), rfl, hg.frame _, fun h => by cases h⟩
theorem reads (os : Os) {H : Type} (enc : TypeId × Value → H) : ∃ places, DataW.whole enc Tryd.prog ((laidW os).forCall (fun _ _ => 0) ⟨#[], #[.slice none 0 0, .agg #[.int .u8 0, .int .u8 0, .int .u8 0, .int .u8 0, .int .u8 0, .int .u8 0, .int .u8 0, .int .u8 0, .int .u8 0, .int .u8 0, .int .u8 0, .int .u8 0]], []⟩).memory Tryd.f5.params.toList Rows.rewriteMeansSpec.vars false #[(.slice none 0 0 : Value), (.agg #[.int .u8 0, .int .u8 0, .int .u8 0, .int .u8 0, .int .u8 0, .int .u8 0, .int .u8 0, .int .u8 0, .int .u8 0, .int .u8 0, .int .u8 0, .int .u8 0] : Value)].toList 8 = some ([.nil, .agg [.agg [.lit (.int .u8 0), .agg [.lit (.int .u8 0), .lit (.int .u8 0)]], .agg [.lit (.int .u8 0), .agg [.lit (.int .u8 0), .lit (.int .u8 0)]], .agg [.lit (.int .u8 0), .agg [.lit (.int .u8 0), .lit (.int .u8 0)]], .agg [.lit (.int .u8 0), .agg [.lit (.int .u8 0), .lit (.int .u8 0)]]]], [], places) :=
  ⟨[], by kernel_rfl⟩
set_option maxRecDepth 100000 in
theorem lifted (os : Os) (started : os.Started) (H : Type) (enc : TypeId × Value → H) (F : Stop.Interp) :
    ReturnsInHanded {} Tryd.checked os 5 .any ((OpenSpec.ofChange Rows.rewriteMeansSpec).preRow enc Tryd.prog Tryd.f5 Rows.rewriteMeansRow.domain false Rows.rewriteMeansRow.laid) (((OpenSpec.ofChange Rows.rewriteMeansSpec).at F).post enc Tryd.prog Tryd.f5 false true false false) := by
  obtain ⟨places, hx⟩ := reads os enc
  refine returnsInHanded_of_row (C := Tryd.checked) (s := OpenSpec.ofChange Rows.rewriteMeansSpec) own started (by kernel_rfl) Tryd.func5
    (witness_row_atRef (enc := enc) (C := Tryd.checked) false (laidW os) #[.slice none 0 0, .agg #[.int .u8 0, .int .u8 0, .int .u8 0, .int .u8 0, .int .u8 0, .int .u8 0, .int .u8 0, .int .u8 0, .int .u8 0, .int .u8 0, .int .u8 0, .int .u8 0]] (laidW_os os) (vars_ok os _) (heap_ok os _) (by kernel_rfl)
      (OpenSpec.preRow_of_cond 8 hx (by kernel_rfl) (fun k hk => by cases hk) (by kernel_rfl) (laid_met os _))) ?_
  intro W base args ds gs before hval hW _ _ _ hL hsh _
  exact contract H enc W base args ds gs before hval hW (env_of hL)
theorem said : Rows.RewriteMeansSaid :=
  OpenClaim.holds_of_cond 5 Tryd.f5 rfl rfl rfl rfl rfl rfl rfl ⟨rfl, rfl, rfl, rfl, rfl⟩ rfl rfl rfl rfl rfl (by kernel_rfl) Tryd.func5 (by kernel_rfl)
    (of_decide_eq_true (by kernel_rfl)) (by unfold Func.isWrapper; first | (rw [if_pos (by decide +kernel)]; kernel_rfl) | (rw [if_neg (by decide +kernel)]; exact ⟨rfl, rfl⟩))
    (fun os started H enc _ F => by rw [OpenClaim.pre_eq_preRow]; exact lifted os started H enc F)
theorem plain (f : FuncId) (fn : Func) (hf : Tryd.pinned.checked.prog.funcNamed "witting/wittinglaw08.RewriteMeans" = some f) (hfn : Tryd.pinned.checked.prog.funcs[f]? = some fn) :
    false = Tryd.pinned.checked.prog.looks [] ∧ ∀ (j : Nat) t, fn.params[j]? = some t → Tryd.pinned.checked.prog.wantsStandIn t = false := by
  obtain rfl : f = 5 := Option.some.inj ((show Tryd.prog.funcNamed "witting/wittinglaw08.RewriteMeans" = some 5 by kernel_rfl).symm.trans hf) |>.symm
  obtain rfl : fn = Tryd.f5 := (Option.some.inj (Tryd.func5.symm.trans hfn)).symm
  refine ⟨no_looks, fun j t ht => ?_⟩
  rw [Tryd.params5] at ht
  have hm : t ∈ [22, 36] := by simpa using Array.mem_of_getElem? ht
  have hall : ([22, 36].all fun u => !Tryd.prog.wantsStandIn u) = true := by kernel_rfl
  exact (show Tryd.prog.wantsStandIn t = false by simpa using List.all_eq_true.1 hall t hm)
theorem card : Rows.RewriteMeansCardSaid :=
  Claim7.holds_tied_plain_at .later [] _ _ _ _ said (fun _ h => by cases h) (by kernel_rfl) (fun _ h => by cases h) rewriteMeans_row_tie rfl ⟨rfl, rfl⟩ (by kernel_rfl) rfl plain (by kernel_rfl)
#print axioms card
end Go.Proofs.YtkkkomkljpolbaaDoor.rewriteMeans
