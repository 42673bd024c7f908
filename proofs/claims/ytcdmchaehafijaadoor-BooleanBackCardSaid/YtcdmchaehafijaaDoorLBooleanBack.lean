/- Layer 9: BooleanBack: the formula of a truth table is canonical, propositional and short, and has the table; a bad table has its error. -/
import Derived.Test.YtcdmchaehafijaaDoorIyb
import Derived.Test.YtcdmchaehafijaaDoorIzb
import Derived.Test.YtcdmchaehafijaaDoorNIp
namespace Go.Proofs.YtcdmchaehafijaaDoor.booleanBack
open Go.ChangeShapes Go.WideShapes Go.ChangeAt Go.RowKit Go.Proofs.YtcdmchaehafijaaDoor Go.Proofs.YtcdmchaehafijaaDoor.bol Go.Proofs.Ws Go.Maps
open Go.ChangeMaps (open_string shut_string)
set_option maxRecDepth 100000 in
set_option maxHeartbeats 4000000 in
theorem walk_0 (t : Nat) (ht : t < 18446744073709551616) (w : World) (hE : EnvB w w.heap.size ∧ EnvR w w.heap.size) :
    Calls Tryd.prog 3 #[.int .u64 (t : Int), .int .i64 0] w fun e w' => e = .returned (.bool true) ∧ Below w.heap.size w w' := by
  have HE := Lib.hid hE.1
  have HB0 : Hid (Below w.heap.size w w) := Lib.hid (Below.refl _ _)
  have HFT := Lib.hid (fromTable_any t ht 0 w hE.2)
  by_cases hl : t < 2 ^ 2 ^ 0
  · have hz : ctE t 0 = 0 := by
      unfold ctE
      rw [if_pos (by omega)]
      exact if_pos hl
    have hF := ft_ok (n := 0) (by omega) hl
    rw [hz, if_pos rfl, show Int.toNat 0 = 0 from rfl] at HFT
    have HCK := Lib.hid (fun (A : Option Addr) (c : Nat) (W : World) (hr : Reads W W.heap.size 6 A (canT (ftT 0 t)).length (nds (canT (ftT 0 t)))) => pCheck_any _ A _ c W hr (by have := hF.len; unfold maxLen; omega))
    have HFR := Lib.hid (fun (A : Option Addr) (c : Nat) (W : World) (hr : Reads W W.heap.size 6 A (canT (ftT 0 t)).length (nds (canT (ftT 0 t)))) => pFrags_any _ A _ c W hr (by have := hF.len; unfold maxLen; omega))
    have HCO := Lib.hid (fun (A : Option Addr) (c : Nat) (W : World) (hr : Reads W W.heap.size 6 A (canT (ftT 0 t)).length (nds (canT (ftT 0 t)))) => pCompact_any _ A _ c W hr (by have := hF.len; unfold maxLen; omega))
    have HEQ := Lib.hid (fun (A B : Option Addr) (c d : Nat) (W : World) (hr : Reads W W.heap.size 6 A (canT (ftT 0 t)).length (nds (canT (ftT 0 t)))) (hr2 : Reads W W.heap.size 6 B (canT (ftT 0 t)).length (nds (canT (ftT 0 t)))) => rEqual_any _ _ A B _ _ c d W hr hr2 (by have := hF.len; unfold maxLen; omega) (by have := hF.len; unfold maxLen; omega))
    have HFC := Lib.hid (fun (A : Option Addr) (c : Nat) (W : World) (hr : Reads W W.heap.size 6 A (canT (ftT 0 t)).length (nds (canT (ftT 0 t)))) => pFacts_any _ A _ c W hr (by have := hF.len; unfold maxLen; omega))
    have HTB := Lib.hid (fun (A : Option Addr) (c : Nat) (W : World) (h : Below w.heap.size w W) (hr : Reads W W.heap.size 6 A (canT (ftT 0 t)).length (nds (canT (ftT 0 t)))) => pTable_any _ 0 A _ c W ((hE.1.below h).up h.size) hr (by have := hF.len; unfold maxLen; omega))
    have e1 : fErr (canT (ftT 0 t)) = 0 := hF.ok
    have e2 : maskL fragD (compF (canT (ftT 0 t))) = 0 := hF.frag
    have e3 : compF (canT (ftT 0 t)) = canT (ftT 0 t) := hF.comp
    have e4 : maskL factD (compF (canT (ftT 0 t))) / 1 = 0 := hF.fact
    have e5 : tblE (canT (ftT 0 t)) 0 = 0 := hF.tE
    have e6 : tblV (canT (ftT 0 t)) 0 = t := hF.tV
    rw [e1] at HCK
    rw [e2] at HFR
    rw [e3] at HCO
    rw [decide_eq_true (rfl : canT (ftT 0 t) = canT (ftT 0 t))] at HEQ
    rw [e5, e6] at HTB
    have d4 : (((maskL factD (compF (canT (ftT 0 t))) : Nat) : Int) / 1 != 0) = false := by rw [bne_eq_false_iff_eq]; omega
    have d0 : ((t : Int) / 2 != 0) = false := by
      rw [bne_eq_false_iff_eq]
      have : t < 2 := hl
      omega
    have d7 : ((t : Int) == (t : Int)) = true := by simp
    clear e1 e2 e3 e4 e5 e6 hF hz hl ht hE
    generalize maskL factD (compF (canT (ftT 0 t))) = fm at *
    generalize canT (ftT 0 t) = g at *
    go_enter Tryd.func3, Tryd.ntmps3
    go_wp2_with fail
    refine (HFT.out).mono ?_
    rintro e w1 ⟨A1, c1, rfl, hr1, hb1⟩
    have HB1 : Hid (Below w.heap.size w w1) := Lib.hid (HB0.out.trans (hb1.mono HB0.out.size))
    have HR1 := Lib.hid hr1
    clear hr1
    clear hb1
    go_wp2_with fail
    refine (HCK.out _ _ _ HR1.out).mono ?_
    rintro e w2 ⟨rfl, hb2⟩
    have HB2 : Hid (Below w.heap.size w w2) := Lib.hid (HB1.out.trans (hb2.mono HB1.out.size))
    have HR1 := Lib.hid (up8 HR1.out hb2)
    clear hb2
    go_wp2_with fail
    refine (HFR.out _ _ _ HR1.out).mono ?_
    rintro e w3 ⟨rfl, hb3⟩
    have HB3 : Hid (Below w.heap.size w w3) := Lib.hid (HB2.out.trans (hb3.mono HB2.out.size))
    have HR1 := Lib.hid (up8 HR1.out hb3)
    clear hb3
    go_wp2_with fail
    refine (HCO.out _ _ _ HR1.out).mono ?_
    rintro e w4 ⟨A4, c4, rfl, hr4, hb4⟩
    have HB4 : Hid (Below w.heap.size w w4) := Lib.hid (HB3.out.trans (hb4.mono HB3.out.size))
    have HR4 := Lib.hid hr4
    clear hr4
    have HR1 := Lib.hid (up8 HR1.out hb4)
    clear hb4
    go_wp2_with fail
    refine (HEQ.out _ _ _ _ _ HR1.out HR4.out).mono ?_
    rintro e w5 ⟨rfl, hb5⟩
    have HB5 : Hid (Below w.heap.size w w5) := Lib.hid (HB4.out.trans (hb5.mono HB4.out.size))
    have HR1 := Lib.hid (up8 HR1.out hb5)
    clear hb5
    go_wp2_with fail
    refine (HFC.out _ _ _ HR1.out).mono ?_
    rintro e w6 ⟨rfl, hb6⟩
    have HB6 : Hid (Below w.heap.size w w6) := Lib.hid (HB5.out.trans (hb6.mono HB5.out.size))
    have HR1 := Lib.hid (up8 HR1.out hb6)
    clear hb6
    go_wp2_with fail
    refine (HTB.out _ _ _ HB6.out HR1.out).mono ?_
    rintro e w7 ⟨rfl, hb7⟩
    have HB7 : Hid (Below w.heap.size w w7) := Lib.hid (HB6.out.trans (hb7.mono HB6.out.size))
    clear hb7
    go_wp2_with fail
    refine (awake9_any _ ((HE.out.below HB7.out).up HB7.out.size)).mono ?_
    rintro e wz ⟨rfl, hbz⟩
    have HBz := Lib.hid (HB7.out.trans (hbz.mono HB7.out.size))
    clear hbz
    go_wp2
    go_ret
    exact ⟨rfl, HBz.out⟩
  · have hz : ctE t 0 = 1 := by
      unfold ctE
      rw [if_pos (by omega)]
      exact if_neg hl
    rw [hz, if_neg (by decide)] at HFT
    have d0 : ((t : Int) / 2 != 0) = true := by
      rw [bne_iff_ne]
      have : ¬ t < 2 := hl
      omega
    clear hz hl ht hE
    go_enter Tryd.func3, Tryd.ntmps3
    go_wp2_with fail
    refine (HFT.out).mono ?_
    rintro e w1 ⟨A1, c1, rfl, hr1, hb1⟩
    have HB1 : Hid (Below w.heap.size w w1) := Lib.hid (HB0.out.trans (hb1.mono HB0.out.size))
    have HR1 := Lib.hid hr1
    clear hr1
    clear hb1
    go_wp2_with fail
    refine (awake9_any _ ((HE.out.below HB1.out).up HB1.out.size)).mono ?_
    rintro e wz ⟨rfl, hbz⟩
    have HBz := Lib.hid (HB1.out.trans (hbz.mono HB1.out.size))
    clear hbz
    go_wp2
    go_ret
    exact ⟨rfl, HBz.out⟩
set_option maxRecDepth 100000 in
set_option maxHeartbeats 4000000 in
theorem walk_1 (t : Nat) (ht : t < 18446744073709551616) (w : World) (hE : EnvB w w.heap.size ∧ EnvR w w.heap.size) :
    Calls Tryd.prog 3 #[.int .u64 (t : Int), .int .i64 1] w fun e w' => e = .returned (.bool true) ∧ Below w.heap.size w w' := by
  have HE := Lib.hid hE.1
  have HB0 : Hid (Below w.heap.size w w) := Lib.hid (Below.refl _ _)
  have HFT := Lib.hid (fromTable_any t ht 1 w hE.2)
  by_cases hl : t < 2 ^ 2 ^ 1
  · have hz : ctE t 1 = 0 := by
      unfold ctE
      rw [if_pos (by omega)]
      exact if_pos hl
    have hF := ft_ok (n := 1) (by omega) hl
    rw [hz, if_pos rfl, show Int.toNat 1 = 1 from rfl] at HFT
    have HCK := Lib.hid (fun (A : Option Addr) (c : Nat) (W : World) (hr : Reads W W.heap.size 6 A (canT (ftT 1 t)).length (nds (canT (ftT 1 t)))) => pCheck_any _ A _ c W hr (by have := hF.len; unfold maxLen; omega))
    have HFR := Lib.hid (fun (A : Option Addr) (c : Nat) (W : World) (hr : Reads W W.heap.size 6 A (canT (ftT 1 t)).length (nds (canT (ftT 1 t)))) => pFrags_any _ A _ c W hr (by have := hF.len; unfold maxLen; omega))
    have HCO := Lib.hid (fun (A : Option Addr) (c : Nat) (W : World) (hr : Reads W W.heap.size 6 A (canT (ftT 1 t)).length (nds (canT (ftT 1 t)))) => pCompact_any _ A _ c W hr (by have := hF.len; unfold maxLen; omega))
    have HEQ := Lib.hid (fun (A B : Option Addr) (c d : Nat) (W : World) (hr : Reads W W.heap.size 6 A (canT (ftT 1 t)).length (nds (canT (ftT 1 t)))) (hr2 : Reads W W.heap.size 6 B (canT (ftT 1 t)).length (nds (canT (ftT 1 t)))) => rEqual_any _ _ A B _ _ c d W hr hr2 (by have := hF.len; unfold maxLen; omega) (by have := hF.len; unfold maxLen; omega))
    have HFC := Lib.hid (fun (A : Option Addr) (c : Nat) (W : World) (hr : Reads W W.heap.size 6 A (canT (ftT 1 t)).length (nds (canT (ftT 1 t)))) => pFacts_any _ A _ c W hr (by have := hF.len; unfold maxLen; omega))
    have HTB := Lib.hid (fun (A : Option Addr) (c : Nat) (W : World) (h : Below w.heap.size w W) (hr : Reads W W.heap.size 6 A (canT (ftT 1 t)).length (nds (canT (ftT 1 t)))) => pTable_any _ 1 A _ c W ((hE.1.below h).up h.size) hr (by have := hF.len; unfold maxLen; omega))
    have e1 : fErr (canT (ftT 1 t)) = 0 := hF.ok
    have e2 : maskL fragD (compF (canT (ftT 1 t))) = 0 := hF.frag
    have e3 : compF (canT (ftT 1 t)) = canT (ftT 1 t) := hF.comp
    have e4 : maskL factD (compF (canT (ftT 1 t))) / 2 = 0 := hF.fact
    have e5 : tblE (canT (ftT 1 t)) 1 = 0 := hF.tE
    have e6 : tblV (canT (ftT 1 t)) 1 = t := hF.tV
    rw [e1] at HCK
    rw [e2] at HFR
    rw [e3] at HCO
    rw [decide_eq_true (rfl : canT (ftT 1 t) = canT (ftT 1 t))] at HEQ
    rw [e5, e6] at HTB
    have d4 : (((maskL factD (compF (canT (ftT 1 t))) : Nat) : Int) / 2 != 0) = false := by rw [bne_eq_false_iff_eq]; omega
    have d0 : ((t : Int) / 4 != 0) = false := by
      rw [bne_eq_false_iff_eq]
      have : t < 4 := hl
      omega
    have d7 : ((t : Int) == (t : Int)) = true := by simp
    clear e1 e2 e3 e4 e5 e6 hF hz hl ht hE
    generalize maskL factD (compF (canT (ftT 1 t))) = fm at *
    generalize canT (ftT 1 t) = g at *
    go_enter Tryd.func3, Tryd.ntmps3
    go_wp2_with fail
    refine (HFT.out).mono ?_
    rintro e w1 ⟨A1, c1, rfl, hr1, hb1⟩
    have HB1 : Hid (Below w.heap.size w w1) := Lib.hid (HB0.out.trans (hb1.mono HB0.out.size))
    have HR1 := Lib.hid hr1
    clear hr1
    clear hb1
    go_wp2_with fail
    refine (HCK.out _ _ _ HR1.out).mono ?_
    rintro e w2 ⟨rfl, hb2⟩
    have HB2 : Hid (Below w.heap.size w w2) := Lib.hid (HB1.out.trans (hb2.mono HB1.out.size))
    have HR1 := Lib.hid (up8 HR1.out hb2)
    clear hb2
    go_wp2_with fail
    refine (HFR.out _ _ _ HR1.out).mono ?_
    rintro e w3 ⟨rfl, hb3⟩
    have HB3 : Hid (Below w.heap.size w w3) := Lib.hid (HB2.out.trans (hb3.mono HB2.out.size))
    have HR1 := Lib.hid (up8 HR1.out hb3)
    clear hb3
    go_wp2_with fail
    refine (HCO.out _ _ _ HR1.out).mono ?_
    rintro e w4 ⟨A4, c4, rfl, hr4, hb4⟩
    have HB4 : Hid (Below w.heap.size w w4) := Lib.hid (HB3.out.trans (hb4.mono HB3.out.size))
    have HR4 := Lib.hid hr4
    clear hr4
    have HR1 := Lib.hid (up8 HR1.out hb4)
    clear hb4
    go_wp2_with fail
    refine (HEQ.out _ _ _ _ _ HR1.out HR4.out).mono ?_
    rintro e w5 ⟨rfl, hb5⟩
    have HB5 : Hid (Below w.heap.size w w5) := Lib.hid (HB4.out.trans (hb5.mono HB4.out.size))
    have HR1 := Lib.hid (up8 HR1.out hb5)
    clear hb5
    go_wp2_with fail
    refine (HFC.out _ _ _ HR1.out).mono ?_
    rintro e w6 ⟨rfl, hb6⟩
    have HB6 : Hid (Below w.heap.size w w6) := Lib.hid (HB5.out.trans (hb6.mono HB5.out.size))
    have HR1 := Lib.hid (up8 HR1.out hb6)
    clear hb6
    go_wp2_with fail
    refine (HTB.out _ _ _ HB6.out HR1.out).mono ?_
    rintro e w7 ⟨rfl, hb7⟩
    have HB7 : Hid (Below w.heap.size w w7) := Lib.hid (HB6.out.trans (hb7.mono HB6.out.size))
    clear hb7
    go_wp2_with fail
    refine (awake9_any _ ((HE.out.below HB7.out).up HB7.out.size)).mono ?_
    rintro e wz ⟨rfl, hbz⟩
    have HBz := Lib.hid (HB7.out.trans (hbz.mono HB7.out.size))
    clear hbz
    go_wp2
    go_ret
    exact ⟨rfl, HBz.out⟩
  · have hz : ctE t 1 = 1 := by
      unfold ctE
      rw [if_pos (by omega)]
      exact if_neg hl
    rw [hz, if_neg (by decide)] at HFT
    have d0 : ((t : Int) / 4 != 0) = true := by
      rw [bne_iff_ne]
      have : ¬ t < 4 := hl
      omega
    clear hz hl ht hE
    go_enter Tryd.func3, Tryd.ntmps3
    go_wp2_with fail
    refine (HFT.out).mono ?_
    rintro e w1 ⟨A1, c1, rfl, hr1, hb1⟩
    have HB1 : Hid (Below w.heap.size w w1) := Lib.hid (HB0.out.trans (hb1.mono HB0.out.size))
    have HR1 := Lib.hid hr1
    clear hr1
    clear hb1
    go_wp2_with fail
    refine (awake9_any _ ((HE.out.below HB1.out).up HB1.out.size)).mono ?_
    rintro e wz ⟨rfl, hbz⟩
    have HBz := Lib.hid (HB1.out.trans (hbz.mono HB1.out.size))
    clear hbz
    go_wp2
    go_ret
    exact ⟨rfl, HBz.out⟩
set_option maxRecDepth 100000 in
set_option maxHeartbeats 4000000 in
theorem walk_2 (t : Nat) (ht : t < 18446744073709551616) (w : World) (hE : EnvB w w.heap.size ∧ EnvR w w.heap.size) :
    Calls Tryd.prog 3 #[.int .u64 (t : Int), .int .i64 2] w fun e w' => e = .returned (.bool true) ∧ Below w.heap.size w w' := by
  have HE := Lib.hid hE.1
  have HB0 : Hid (Below w.heap.size w w) := Lib.hid (Below.refl _ _)
  have HFT := Lib.hid (fromTable_any t ht 2 w hE.2)
  by_cases hl : t < 2 ^ 2 ^ 2
  · have hz : ctE t 2 = 0 := by
      unfold ctE
      rw [if_pos (by omega)]
      exact if_pos hl
    have hF := ft_ok (n := 2) (by omega) hl
    rw [hz, if_pos rfl, show Int.toNat 2 = 2 from rfl] at HFT
    have HCK := Lib.hid (fun (A : Option Addr) (c : Nat) (W : World) (hr : Reads W W.heap.size 6 A (canT (ftT 2 t)).length (nds (canT (ftT 2 t)))) => pCheck_any _ A _ c W hr (by have := hF.len; unfold maxLen; omega))
    have HFR := Lib.hid (fun (A : Option Addr) (c : Nat) (W : World) (hr : Reads W W.heap.size 6 A (canT (ftT 2 t)).length (nds (canT (ftT 2 t)))) => pFrags_any _ A _ c W hr (by have := hF.len; unfold maxLen; omega))
    have HCO := Lib.hid (fun (A : Option Addr) (c : Nat) (W : World) (hr : Reads W W.heap.size 6 A (canT (ftT 2 t)).length (nds (canT (ftT 2 t)))) => pCompact_any _ A _ c W hr (by have := hF.len; unfold maxLen; omega))
    have HEQ := Lib.hid (fun (A B : Option Addr) (c d : Nat) (W : World) (hr : Reads W W.heap.size 6 A (canT (ftT 2 t)).length (nds (canT (ftT 2 t)))) (hr2 : Reads W W.heap.size 6 B (canT (ftT 2 t)).length (nds (canT (ftT 2 t)))) => rEqual_any _ _ A B _ _ c d W hr hr2 (by have := hF.len; unfold maxLen; omega) (by have := hF.len; unfold maxLen; omega))
    have HFC := Lib.hid (fun (A : Option Addr) (c : Nat) (W : World) (hr : Reads W W.heap.size 6 A (canT (ftT 2 t)).length (nds (canT (ftT 2 t)))) => pFacts_any _ A _ c W hr (by have := hF.len; unfold maxLen; omega))
    have HTB := Lib.hid (fun (A : Option Addr) (c : Nat) (W : World) (h : Below w.heap.size w W) (hr : Reads W W.heap.size 6 A (canT (ftT 2 t)).length (nds (canT (ftT 2 t)))) => pTable_any _ 2 A _ c W ((hE.1.below h).up h.size) hr (by have := hF.len; unfold maxLen; omega))
    have e1 : fErr (canT (ftT 2 t)) = 0 := hF.ok
    have e2 : maskL fragD (compF (canT (ftT 2 t))) = 0 := hF.frag
    have e3 : compF (canT (ftT 2 t)) = canT (ftT 2 t) := hF.comp
    have e4 : maskL factD (compF (canT (ftT 2 t))) / 4 = 0 := hF.fact
    have e5 : tblE (canT (ftT 2 t)) 2 = 0 := hF.tE
    have e6 : tblV (canT (ftT 2 t)) 2 = t := hF.tV
    rw [e1] at HCK
    rw [e2] at HFR
    rw [e3] at HCO
    rw [decide_eq_true (rfl : canT (ftT 2 t) = canT (ftT 2 t))] at HEQ
    rw [e5, e6] at HTB
    have d4 : (((maskL factD (compF (canT (ftT 2 t))) : Nat) : Int) / 4 != 0) = false := by rw [bne_eq_false_iff_eq]; omega
    have d0 : ((t : Int) / 16 != 0) = false := by
      rw [bne_eq_false_iff_eq]
      have : t < 16 := hl
      omega
    have d7 : ((t : Int) == (t : Int)) = true := by simp
    clear e1 e2 e3 e4 e5 e6 hF hz hl ht hE
    generalize maskL factD (compF (canT (ftT 2 t))) = fm at *
    generalize canT (ftT 2 t) = g at *
    go_enter Tryd.func3, Tryd.ntmps3
    go_wp2_with fail
    refine (HFT.out).mono ?_
    rintro e w1 ⟨A1, c1, rfl, hr1, hb1⟩
    have HB1 : Hid (Below w.heap.size w w1) := Lib.hid (HB0.out.trans (hb1.mono HB0.out.size))
    have HR1 := Lib.hid hr1
    clear hr1
    clear hb1
    go_wp2_with fail
    refine (HCK.out _ _ _ HR1.out).mono ?_
    rintro e w2 ⟨rfl, hb2⟩
    have HB2 : Hid (Below w.heap.size w w2) := Lib.hid (HB1.out.trans (hb2.mono HB1.out.size))
    have HR1 := Lib.hid (up8 HR1.out hb2)
    clear hb2
    go_wp2_with fail
    refine (HFR.out _ _ _ HR1.out).mono ?_
    rintro e w3 ⟨rfl, hb3⟩
    have HB3 : Hid (Below w.heap.size w w3) := Lib.hid (HB2.out.trans (hb3.mono HB2.out.size))
    have HR1 := Lib.hid (up8 HR1.out hb3)
    clear hb3
    go_wp2_with fail
    refine (HCO.out _ _ _ HR1.out).mono ?_
    rintro e w4 ⟨A4, c4, rfl, hr4, hb4⟩
    have HB4 : Hid (Below w.heap.size w w4) := Lib.hid (HB3.out.trans (hb4.mono HB3.out.size))
    have HR4 := Lib.hid hr4
    clear hr4
    have HR1 := Lib.hid (up8 HR1.out hb4)
    clear hb4
    go_wp2_with fail
    refine (HEQ.out _ _ _ _ _ HR1.out HR4.out).mono ?_
    rintro e w5 ⟨rfl, hb5⟩
    have HB5 : Hid (Below w.heap.size w w5) := Lib.hid (HB4.out.trans (hb5.mono HB4.out.size))
    have HR1 := Lib.hid (up8 HR1.out hb5)
    clear hb5
    go_wp2_with fail
    refine (HFC.out _ _ _ HR1.out).mono ?_
    rintro e w6 ⟨rfl, hb6⟩
    have HB6 : Hid (Below w.heap.size w w6) := Lib.hid (HB5.out.trans (hb6.mono HB5.out.size))
    have HR1 := Lib.hid (up8 HR1.out hb6)
    clear hb6
    go_wp2_with fail
    refine (HTB.out _ _ _ HB6.out HR1.out).mono ?_
    rintro e w7 ⟨rfl, hb7⟩
    have HB7 : Hid (Below w.heap.size w w7) := Lib.hid (HB6.out.trans (hb7.mono HB6.out.size))
    clear hb7
    go_wp2_with fail
    refine (awake9_any _ ((HE.out.below HB7.out).up HB7.out.size)).mono ?_
    rintro e wz ⟨rfl, hbz⟩
    have HBz := Lib.hid (HB7.out.trans (hbz.mono HB7.out.size))
    clear hbz
    go_wp2
    go_ret
    exact ⟨rfl, HBz.out⟩
  · have hz : ctE t 2 = 1 := by
      unfold ctE
      rw [if_pos (by omega)]
      exact if_neg hl
    rw [hz, if_neg (by decide)] at HFT
    have d0 : ((t : Int) / 16 != 0) = true := by
      rw [bne_iff_ne]
      have : ¬ t < 16 := hl
      omega
    clear hz hl ht hE
    go_enter Tryd.func3, Tryd.ntmps3
    go_wp2_with fail
    refine (HFT.out).mono ?_
    rintro e w1 ⟨A1, c1, rfl, hr1, hb1⟩
    have HB1 : Hid (Below w.heap.size w w1) := Lib.hid (HB0.out.trans (hb1.mono HB0.out.size))
    have HR1 := Lib.hid hr1
    clear hr1
    clear hb1
    go_wp2_with fail
    refine (awake9_any _ ((HE.out.below HB1.out).up HB1.out.size)).mono ?_
    rintro e wz ⟨rfl, hbz⟩
    have HBz := Lib.hid (HB1.out.trans (hbz.mono HB1.out.size))
    clear hbz
    go_wp2
    go_ret
    exact ⟨rfl, HBz.out⟩
set_option maxRecDepth 100000 in
set_option maxHeartbeats 4000000 in
theorem walk_3 (t : Nat) (ht : t < 18446744073709551616) (w : World) (hE : EnvB w w.heap.size ∧ EnvR w w.heap.size) :
    Calls Tryd.prog 3 #[.int .u64 (t : Int), .int .i64 3] w fun e w' => e = .returned (.bool true) ∧ Below w.heap.size w w' := by
  have HE := Lib.hid hE.1
  have HB0 : Hid (Below w.heap.size w w) := Lib.hid (Below.refl _ _)
  have HFT := Lib.hid (fromTable_any t ht 3 w hE.2)
  by_cases hl : t < 2 ^ 2 ^ 3
  · have hz : ctE t 3 = 0 := by
      unfold ctE
      rw [if_pos (by omega)]
      exact if_pos hl
    have hF := ft_ok (n := 3) (by omega) hl
    rw [hz, if_pos rfl, show Int.toNat 3 = 3 from rfl] at HFT
    have HCK := Lib.hid (fun (A : Option Addr) (c : Nat) (W : World) (hr : Reads W W.heap.size 6 A (canT (ftT 3 t)).length (nds (canT (ftT 3 t)))) => pCheck_any _ A _ c W hr (by have := hF.len; unfold maxLen; omega))
    have HFR := Lib.hid (fun (A : Option Addr) (c : Nat) (W : World) (hr : Reads W W.heap.size 6 A (canT (ftT 3 t)).length (nds (canT (ftT 3 t)))) => pFrags_any _ A _ c W hr (by have := hF.len; unfold maxLen; omega))
    have HCO := Lib.hid (fun (A : Option Addr) (c : Nat) (W : World) (hr : Reads W W.heap.size 6 A (canT (ftT 3 t)).length (nds (canT (ftT 3 t)))) => pCompact_any _ A _ c W hr (by have := hF.len; unfold maxLen; omega))
    have HEQ := Lib.hid (fun (A B : Option Addr) (c d : Nat) (W : World) (hr : Reads W W.heap.size 6 A (canT (ftT 3 t)).length (nds (canT (ftT 3 t)))) (hr2 : Reads W W.heap.size 6 B (canT (ftT 3 t)).length (nds (canT (ftT 3 t)))) => rEqual_any _ _ A B _ _ c d W hr hr2 (by have := hF.len; unfold maxLen; omega) (by have := hF.len; unfold maxLen; omega))
    have HFC := Lib.hid (fun (A : Option Addr) (c : Nat) (W : World) (hr : Reads W W.heap.size 6 A (canT (ftT 3 t)).length (nds (canT (ftT 3 t)))) => pFacts_any _ A _ c W hr (by have := hF.len; unfold maxLen; omega))
    have HTB := Lib.hid (fun (A : Option Addr) (c : Nat) (W : World) (h : Below w.heap.size w W) (hr : Reads W W.heap.size 6 A (canT (ftT 3 t)).length (nds (canT (ftT 3 t)))) => pTable_any _ 3 A _ c W ((hE.1.below h).up h.size) hr (by have := hF.len; unfold maxLen; omega))
    have e1 : fErr (canT (ftT 3 t)) = 0 := hF.ok
    have e2 : maskL fragD (compF (canT (ftT 3 t))) = 0 := hF.frag
    have e3 : compF (canT (ftT 3 t)) = canT (ftT 3 t) := hF.comp
    have e4 : maskL factD (compF (canT (ftT 3 t))) / 8 = 0 := hF.fact
    have e5 : tblE (canT (ftT 3 t)) 3 = 0 := hF.tE
    have e6 : tblV (canT (ftT 3 t)) 3 = t := hF.tV
    rw [e1] at HCK
    rw [e2] at HFR
    rw [e3] at HCO
    rw [decide_eq_true (rfl : canT (ftT 3 t) = canT (ftT 3 t))] at HEQ
    rw [e5, e6] at HTB
    have d4 : (((maskL factD (compF (canT (ftT 3 t))) : Nat) : Int) / 8 != 0) = false := by rw [bne_eq_false_iff_eq]; omega
    have d0 : ((t : Int) / 256 != 0) = false := by
      rw [bne_eq_false_iff_eq]
      have : t < 256 := hl
      omega
    have d7 : ((t : Int) == (t : Int)) = true := by simp
    clear e1 e2 e3 e4 e5 e6 hF hz hl ht hE
    generalize maskL factD (compF (canT (ftT 3 t))) = fm at *
    generalize canT (ftT 3 t) = g at *
    go_enter Tryd.func3, Tryd.ntmps3
    go_wp2_with fail
    refine (HFT.out).mono ?_
    rintro e w1 ⟨A1, c1, rfl, hr1, hb1⟩
    have HB1 : Hid (Below w.heap.size w w1) := Lib.hid (HB0.out.trans (hb1.mono HB0.out.size))
    have HR1 := Lib.hid hr1
    clear hr1
    clear hb1
    go_wp2_with fail
    refine (HCK.out _ _ _ HR1.out).mono ?_
    rintro e w2 ⟨rfl, hb2⟩
    have HB2 : Hid (Below w.heap.size w w2) := Lib.hid (HB1.out.trans (hb2.mono HB1.out.size))
    have HR1 := Lib.hid (up8 HR1.out hb2)
    clear hb2
    go_wp2_with fail
    refine (HFR.out _ _ _ HR1.out).mono ?_
    rintro e w3 ⟨rfl, hb3⟩
    have HB3 : Hid (Below w.heap.size w w3) := Lib.hid (HB2.out.trans (hb3.mono HB2.out.size))
    have HR1 := Lib.hid (up8 HR1.out hb3)
    clear hb3
    go_wp2_with fail
    refine (HCO.out _ _ _ HR1.out).mono ?_
    rintro e w4 ⟨A4, c4, rfl, hr4, hb4⟩
    have HB4 : Hid (Below w.heap.size w w4) := Lib.hid (HB3.out.trans (hb4.mono HB3.out.size))
    have HR4 := Lib.hid hr4
    clear hr4
    have HR1 := Lib.hid (up8 HR1.out hb4)
    clear hb4
    go_wp2_with fail
    refine (HEQ.out _ _ _ _ _ HR1.out HR4.out).mono ?_
    rintro e w5 ⟨rfl, hb5⟩
    have HB5 : Hid (Below w.heap.size w w5) := Lib.hid (HB4.out.trans (hb5.mono HB4.out.size))
    have HR1 := Lib.hid (up8 HR1.out hb5)
    clear hb5
    go_wp2_with fail
    refine (HFC.out _ _ _ HR1.out).mono ?_
    rintro e w6 ⟨rfl, hb6⟩
    have HB6 : Hid (Below w.heap.size w w6) := Lib.hid (HB5.out.trans (hb6.mono HB5.out.size))
    have HR1 := Lib.hid (up8 HR1.out hb6)
    clear hb6
    go_wp2_with fail
    refine (HTB.out _ _ _ HB6.out HR1.out).mono ?_
    rintro e w7 ⟨rfl, hb7⟩
    have HB7 : Hid (Below w.heap.size w w7) := Lib.hid (HB6.out.trans (hb7.mono HB6.out.size))
    clear hb7
    go_wp2_with fail
    refine (awake9_any _ ((HE.out.below HB7.out).up HB7.out.size)).mono ?_
    rintro e wz ⟨rfl, hbz⟩
    have HBz := Lib.hid (HB7.out.trans (hbz.mono HB7.out.size))
    clear hbz
    go_wp2
    go_ret
    exact ⟨rfl, HBz.out⟩
  · have hz : ctE t 3 = 1 := by
      unfold ctE
      rw [if_pos (by omega)]
      exact if_neg hl
    rw [hz, if_neg (by decide)] at HFT
    have d0 : ((t : Int) / 256 != 0) = true := by
      rw [bne_iff_ne]
      have : ¬ t < 256 := hl
      omega
    clear hz hl ht hE
    go_enter Tryd.func3, Tryd.ntmps3
    go_wp2_with fail
    refine (HFT.out).mono ?_
    rintro e w1 ⟨A1, c1, rfl, hr1, hb1⟩
    have HB1 : Hid (Below w.heap.size w w1) := Lib.hid (HB0.out.trans (hb1.mono HB0.out.size))
    have HR1 := Lib.hid hr1
    clear hr1
    clear hb1
    go_wp2_with fail
    refine (awake9_any _ ((HE.out.below HB1.out).up HB1.out.size)).mono ?_
    rintro e wz ⟨rfl, hbz⟩
    have HBz := Lib.hid (HB1.out.trans (hbz.mono HB1.out.size))
    clear hbz
    go_wp2
    go_ret
    exact ⟨rfl, HBz.out⟩
set_option maxRecDepth 100000 in
set_option maxHeartbeats 4000000 in
theorem walk_4 (t : Nat) (ht : t < 18446744073709551616) (w : World) (hE : EnvB w w.heap.size ∧ EnvR w w.heap.size) :
    Calls Tryd.prog 3 #[.int .u64 (t : Int), .int .i64 4] w fun e w' => e = .returned (.bool true) ∧ Below w.heap.size w w' := by
  have HE := Lib.hid hE.1
  have HB0 : Hid (Below w.heap.size w w) := Lib.hid (Below.refl _ _)
  have HFT := Lib.hid (fromTable_any t ht 4 w hE.2)
  by_cases hl : t < 2 ^ 2 ^ 4
  · have hz : ctE t 4 = 0 := by
      unfold ctE
      rw [if_pos (by omega)]
      exact if_pos hl
    have hF := ft_ok (n := 4) (by omega) hl
    rw [hz, if_pos rfl, show Int.toNat 4 = 4 from rfl] at HFT
    have HCK := Lib.hid (fun (A : Option Addr) (c : Nat) (W : World) (hr : Reads W W.heap.size 6 A (canT (ftT 4 t)).length (nds (canT (ftT 4 t)))) => pCheck_any _ A _ c W hr (by have := hF.len; unfold maxLen; omega))
    have HFR := Lib.hid (fun (A : Option Addr) (c : Nat) (W : World) (hr : Reads W W.heap.size 6 A (canT (ftT 4 t)).length (nds (canT (ftT 4 t)))) => pFrags_any _ A _ c W hr (by have := hF.len; unfold maxLen; omega))
    have HCO := Lib.hid (fun (A : Option Addr) (c : Nat) (W : World) (hr : Reads W W.heap.size 6 A (canT (ftT 4 t)).length (nds (canT (ftT 4 t)))) => pCompact_any _ A _ c W hr (by have := hF.len; unfold maxLen; omega))
    have HEQ := Lib.hid (fun (A B : Option Addr) (c d : Nat) (W : World) (hr : Reads W W.heap.size 6 A (canT (ftT 4 t)).length (nds (canT (ftT 4 t)))) (hr2 : Reads W W.heap.size 6 B (canT (ftT 4 t)).length (nds (canT (ftT 4 t)))) => rEqual_any _ _ A B _ _ c d W hr hr2 (by have := hF.len; unfold maxLen; omega) (by have := hF.len; unfold maxLen; omega))
    have HFC := Lib.hid (fun (A : Option Addr) (c : Nat) (W : World) (hr : Reads W W.heap.size 6 A (canT (ftT 4 t)).length (nds (canT (ftT 4 t)))) => pFacts_any _ A _ c W hr (by have := hF.len; unfold maxLen; omega))
    have HTB := Lib.hid (fun (A : Option Addr) (c : Nat) (W : World) (h : Below w.heap.size w W) (hr : Reads W W.heap.size 6 A (canT (ftT 4 t)).length (nds (canT (ftT 4 t)))) => pTable_any _ 4 A _ c W ((hE.1.below h).up h.size) hr (by have := hF.len; unfold maxLen; omega))
    have e1 : fErr (canT (ftT 4 t)) = 0 := hF.ok
    have e2 : maskL fragD (compF (canT (ftT 4 t))) = 0 := hF.frag
    have e3 : compF (canT (ftT 4 t)) = canT (ftT 4 t) := hF.comp
    have e4 : maskL factD (compF (canT (ftT 4 t))) / 16 = 0 := hF.fact
    have e5 : tblE (canT (ftT 4 t)) 4 = 0 := hF.tE
    have e6 : tblV (canT (ftT 4 t)) 4 = t := hF.tV
    rw [e1] at HCK
    rw [e2] at HFR
    rw [e3] at HCO
    rw [decide_eq_true (rfl : canT (ftT 4 t) = canT (ftT 4 t))] at HEQ
    rw [e5, e6] at HTB
    have d4 : (((maskL factD (compF (canT (ftT 4 t))) : Nat) : Int) / 16 != 0) = false := by rw [bne_eq_false_iff_eq]; omega
    have d0 : ((t : Int) / 65536 != 0) = false := by
      rw [bne_eq_false_iff_eq]
      have : t < 65536 := hl
      omega
    have d7 : ((t : Int) == (t : Int)) = true := by simp
    clear e1 e2 e3 e4 e5 e6 hF hz hl ht hE
    generalize maskL factD (compF (canT (ftT 4 t))) = fm at *
    generalize canT (ftT 4 t) = g at *
    go_enter Tryd.func3, Tryd.ntmps3
    go_wp2_with fail
    refine (HFT.out).mono ?_
    rintro e w1 ⟨A1, c1, rfl, hr1, hb1⟩
    have HB1 : Hid (Below w.heap.size w w1) := Lib.hid (HB0.out.trans (hb1.mono HB0.out.size))
    have HR1 := Lib.hid hr1
    clear hr1
    clear hb1
    go_wp2_with fail
    refine (HCK.out _ _ _ HR1.out).mono ?_
    rintro e w2 ⟨rfl, hb2⟩
    have HB2 : Hid (Below w.heap.size w w2) := Lib.hid (HB1.out.trans (hb2.mono HB1.out.size))
    have HR1 := Lib.hid (up8 HR1.out hb2)
    clear hb2
    go_wp2_with fail
    refine (HFR.out _ _ _ HR1.out).mono ?_
    rintro e w3 ⟨rfl, hb3⟩
    have HB3 : Hid (Below w.heap.size w w3) := Lib.hid (HB2.out.trans (hb3.mono HB2.out.size))
    have HR1 := Lib.hid (up8 HR1.out hb3)
    clear hb3
    go_wp2_with fail
    refine (HCO.out _ _ _ HR1.out).mono ?_
    rintro e w4 ⟨A4, c4, rfl, hr4, hb4⟩
    have HB4 : Hid (Below w.heap.size w w4) := Lib.hid (HB3.out.trans (hb4.mono HB3.out.size))
    have HR4 := Lib.hid hr4
    clear hr4
    have HR1 := Lib.hid (up8 HR1.out hb4)
    clear hb4
    go_wp2_with fail
    refine (HEQ.out _ _ _ _ _ HR1.out HR4.out).mono ?_
    rintro e w5 ⟨rfl, hb5⟩
    have HB5 : Hid (Below w.heap.size w w5) := Lib.hid (HB4.out.trans (hb5.mono HB4.out.size))
    have HR1 := Lib.hid (up8 HR1.out hb5)
    clear hb5
    go_wp2_with fail
    refine (HFC.out _ _ _ HR1.out).mono ?_
    rintro e w6 ⟨rfl, hb6⟩
    have HB6 : Hid (Below w.heap.size w w6) := Lib.hid (HB5.out.trans (hb6.mono HB5.out.size))
    have HR1 := Lib.hid (up8 HR1.out hb6)
    clear hb6
    go_wp2_with fail
    refine (HTB.out _ _ _ HB6.out HR1.out).mono ?_
    rintro e w7 ⟨rfl, hb7⟩
    have HB7 : Hid (Below w.heap.size w w7) := Lib.hid (HB6.out.trans (hb7.mono HB6.out.size))
    clear hb7
    go_wp2_with fail
    refine (awake9_any _ ((HE.out.below HB7.out).up HB7.out.size)).mono ?_
    rintro e wz ⟨rfl, hbz⟩
    have HBz := Lib.hid (HB7.out.trans (hbz.mono HB7.out.size))
    clear hbz
    go_wp2
    go_ret
    exact ⟨rfl, HBz.out⟩
  · have hz : ctE t 4 = 1 := by
      unfold ctE
      rw [if_pos (by omega)]
      exact if_neg hl
    rw [hz, if_neg (by decide)] at HFT
    have d0 : ((t : Int) / 65536 != 0) = true := by
      rw [bne_iff_ne]
      have : ¬ t < 65536 := hl
      omega
    clear hz hl ht hE
    go_enter Tryd.func3, Tryd.ntmps3
    go_wp2_with fail
    refine (HFT.out).mono ?_
    rintro e w1 ⟨A1, c1, rfl, hr1, hb1⟩
    have HB1 : Hid (Below w.heap.size w w1) := Lib.hid (HB0.out.trans (hb1.mono HB0.out.size))
    have HR1 := Lib.hid hr1
    clear hr1
    clear hb1
    go_wp2_with fail
    refine (awake9_any _ ((HE.out.below HB1.out).up HB1.out.size)).mono ?_
    rintro e wz ⟨rfl, hbz⟩
    have HBz := Lib.hid (HB1.out.trans (hbz.mono HB1.out.size))
    clear hbz
    go_wp2
    go_ret
    exact ⟨rfl, HBz.out⟩
set_option maxRecDepth 100000 in
set_option maxHeartbeats 4000000 in
theorem walk_5 (t : Nat) (ht : t < 18446744073709551616) (w : World) (hE : EnvB w w.heap.size ∧ EnvR w w.heap.size) :
    Calls Tryd.prog 3 #[.int .u64 (t : Int), .int .i64 5] w fun e w' => e = .returned (.bool true) ∧ Below w.heap.size w w' := by
  have HE := Lib.hid hE.1
  have HB0 : Hid (Below w.heap.size w w) := Lib.hid (Below.refl _ _)
  have HFT := Lib.hid (fromTable_any t ht 5 w hE.2)
  by_cases hl : t < 2 ^ 2 ^ 5
  · have hz : ctE t 5 = 0 := by
      unfold ctE
      rw [if_pos (by omega)]
      exact if_pos hl
    have hF := ft_ok (n := 5) (by omega) hl
    rw [hz, if_pos rfl, show Int.toNat 5 = 5 from rfl] at HFT
    have HCK := Lib.hid (fun (A : Option Addr) (c : Nat) (W : World) (hr : Reads W W.heap.size 6 A (canT (ftT 5 t)).length (nds (canT (ftT 5 t)))) => pCheck_any _ A _ c W hr (by have := hF.len; unfold maxLen; omega))
    have HFR := Lib.hid (fun (A : Option Addr) (c : Nat) (W : World) (hr : Reads W W.heap.size 6 A (canT (ftT 5 t)).length (nds (canT (ftT 5 t)))) => pFrags_any _ A _ c W hr (by have := hF.len; unfold maxLen; omega))
    have HCO := Lib.hid (fun (A : Option Addr) (c : Nat) (W : World) (hr : Reads W W.heap.size 6 A (canT (ftT 5 t)).length (nds (canT (ftT 5 t)))) => pCompact_any _ A _ c W hr (by have := hF.len; unfold maxLen; omega))
    have HEQ := Lib.hid (fun (A B : Option Addr) (c d : Nat) (W : World) (hr : Reads W W.heap.size 6 A (canT (ftT 5 t)).length (nds (canT (ftT 5 t)))) (hr2 : Reads W W.heap.size 6 B (canT (ftT 5 t)).length (nds (canT (ftT 5 t)))) => rEqual_any _ _ A B _ _ c d W hr hr2 (by have := hF.len; unfold maxLen; omega) (by have := hF.len; unfold maxLen; omega))
    have HFC := Lib.hid (fun (A : Option Addr) (c : Nat) (W : World) (hr : Reads W W.heap.size 6 A (canT (ftT 5 t)).length (nds (canT (ftT 5 t)))) => pFacts_any _ A _ c W hr (by have := hF.len; unfold maxLen; omega))
    have HTB := Lib.hid (fun (A : Option Addr) (c : Nat) (W : World) (h : Below w.heap.size w W) (hr : Reads W W.heap.size 6 A (canT (ftT 5 t)).length (nds (canT (ftT 5 t)))) => pTable_any _ 5 A _ c W ((hE.1.below h).up h.size) hr (by have := hF.len; unfold maxLen; omega))
    have e1 : fErr (canT (ftT 5 t)) = 0 := hF.ok
    have e2 : maskL fragD (compF (canT (ftT 5 t))) = 0 := hF.frag
    have e3 : compF (canT (ftT 5 t)) = canT (ftT 5 t) := hF.comp
    have e4 : maskL factD (compF (canT (ftT 5 t))) / 32 = 0 := hF.fact
    have e5 : tblE (canT (ftT 5 t)) 5 = 0 := hF.tE
    have e6 : tblV (canT (ftT 5 t)) 5 = t := hF.tV
    rw [e1] at HCK
    rw [e2] at HFR
    rw [e3] at HCO
    rw [decide_eq_true (rfl : canT (ftT 5 t) = canT (ftT 5 t))] at HEQ
    rw [e5, e6] at HTB
    have d4 : (((maskL factD (compF (canT (ftT 5 t))) : Nat) : Int) / 32 != 0) = false := by rw [bne_eq_false_iff_eq]; omega
    have d0 : ((t : Int) / 4294967296 != 0) = false := by
      rw [bne_eq_false_iff_eq]
      have : t < 4294967296 := hl
      omega
    have d7 : ((t : Int) == (t : Int)) = true := by simp
    clear e1 e2 e3 e4 e5 e6 hF hz hl ht hE
    generalize maskL factD (compF (canT (ftT 5 t))) = fm at *
    generalize canT (ftT 5 t) = g at *
    go_enter Tryd.func3, Tryd.ntmps3
    go_wp2_with fail
    refine (HFT.out).mono ?_
    rintro e w1 ⟨A1, c1, rfl, hr1, hb1⟩
    have HB1 : Hid (Below w.heap.size w w1) := Lib.hid (HB0.out.trans (hb1.mono HB0.out.size))
    have HR1 := Lib.hid hr1
    clear hr1
    clear hb1
    go_wp2_with fail
    refine (HCK.out _ _ _ HR1.out).mono ?_
    rintro e w2 ⟨rfl, hb2⟩
    have HB2 : Hid (Below w.heap.size w w2) := Lib.hid (HB1.out.trans (hb2.mono HB1.out.size))
    have HR1 := Lib.hid (up8 HR1.out hb2)
    clear hb2
    go_wp2_with fail
    refine (HFR.out _ _ _ HR1.out).mono ?_
    rintro e w3 ⟨rfl, hb3⟩
    have HB3 : Hid (Below w.heap.size w w3) := Lib.hid (HB2.out.trans (hb3.mono HB2.out.size))
    have HR1 := Lib.hid (up8 HR1.out hb3)
    clear hb3
    go_wp2_with fail
    refine (HCO.out _ _ _ HR1.out).mono ?_
    rintro e w4 ⟨A4, c4, rfl, hr4, hb4⟩
    have HB4 : Hid (Below w.heap.size w w4) := Lib.hid (HB3.out.trans (hb4.mono HB3.out.size))
    have HR4 := Lib.hid hr4
    clear hr4
    have HR1 := Lib.hid (up8 HR1.out hb4)
    clear hb4
    go_wp2_with fail
    refine (HEQ.out _ _ _ _ _ HR1.out HR4.out).mono ?_
    rintro e w5 ⟨rfl, hb5⟩
    have HB5 : Hid (Below w.heap.size w w5) := Lib.hid (HB4.out.trans (hb5.mono HB4.out.size))
    have HR1 := Lib.hid (up8 HR1.out hb5)
    clear hb5
    go_wp2_with fail
    refine (HFC.out _ _ _ HR1.out).mono ?_
    rintro e w6 ⟨rfl, hb6⟩
    have HB6 : Hid (Below w.heap.size w w6) := Lib.hid (HB5.out.trans (hb6.mono HB5.out.size))
    have HR1 := Lib.hid (up8 HR1.out hb6)
    clear hb6
    go_wp2_with fail
    refine (HTB.out _ _ _ HB6.out HR1.out).mono ?_
    rintro e w7 ⟨rfl, hb7⟩
    have HB7 : Hid (Below w.heap.size w w7) := Lib.hid (HB6.out.trans (hb7.mono HB6.out.size))
    clear hb7
    go_wp2_with fail
    refine (awake9_any _ ((HE.out.below HB7.out).up HB7.out.size)).mono ?_
    rintro e wz ⟨rfl, hbz⟩
    have HBz := Lib.hid (HB7.out.trans (hbz.mono HB7.out.size))
    clear hbz
    go_wp2
    go_ret
    exact ⟨rfl, HBz.out⟩
  · have hz : ctE t 5 = 1 := by
      unfold ctE
      rw [if_pos (by omega)]
      exact if_neg hl
    rw [hz, if_neg (by decide)] at HFT
    have d0 : ((t : Int) / 4294967296 != 0) = true := by
      rw [bne_iff_ne]
      have : ¬ t < 4294967296 := hl
      omega
    clear hz hl ht hE
    go_enter Tryd.func3, Tryd.ntmps3
    go_wp2_with fail
    refine (HFT.out).mono ?_
    rintro e w1 ⟨A1, c1, rfl, hr1, hb1⟩
    have HB1 : Hid (Below w.heap.size w w1) := Lib.hid (HB0.out.trans (hb1.mono HB0.out.size))
    have HR1 := Lib.hid hr1
    clear hr1
    clear hb1
    go_wp2_with fail
    refine (awake9_any _ ((HE.out.below HB1.out).up HB1.out.size)).mono ?_
    rintro e wz ⟨rfl, hbz⟩
    have HBz := Lib.hid (HB1.out.trans (hbz.mono HB1.out.size))
    clear hbz
    go_wp2
    go_ret
    exact ⟨rfl, HBz.out⟩
set_option maxRecDepth 100000 in
set_option maxHeartbeats 4000000 in
theorem walk_6 (t : Nat) (ht : t < 18446744073709551616) (w : World) (hE : EnvB w w.heap.size ∧ EnvR w w.heap.size) :
    Calls Tryd.prog 3 #[.int .u64 (t : Int), .int .i64 6] w fun e w' => e = .returned (.bool true) ∧ Below w.heap.size w w' := by
  have HE := Lib.hid hE.1
  have HB0 : Hid (Below w.heap.size w w) := Lib.hid (Below.refl _ _)
  have HFT := Lib.hid (fromTable_any t ht 6 w hE.2)
  · have hl : t < 2 ^ 2 ^ 6 := ht
    have hz : ctE t 6 = 0 := by
      unfold ctE
      rw [if_pos (by omega)]
      exact if_pos hl
    have hF := ft_ok (n := 6) (by omega) hl
    rw [hz, if_pos rfl, show Int.toNat 6 = 6 from rfl] at HFT
    have HCK := Lib.hid (fun (A : Option Addr) (c : Nat) (W : World) (hr : Reads W W.heap.size 6 A (canT (ftT 6 t)).length (nds (canT (ftT 6 t)))) => pCheck_any _ A _ c W hr (by have := hF.len; unfold maxLen; omega))
    have HFR := Lib.hid (fun (A : Option Addr) (c : Nat) (W : World) (hr : Reads W W.heap.size 6 A (canT (ftT 6 t)).length (nds (canT (ftT 6 t)))) => pFrags_any _ A _ c W hr (by have := hF.len; unfold maxLen; omega))
    have HCO := Lib.hid (fun (A : Option Addr) (c : Nat) (W : World) (hr : Reads W W.heap.size 6 A (canT (ftT 6 t)).length (nds (canT (ftT 6 t)))) => pCompact_any _ A _ c W hr (by have := hF.len; unfold maxLen; omega))
    have HEQ := Lib.hid (fun (A B : Option Addr) (c d : Nat) (W : World) (hr : Reads W W.heap.size 6 A (canT (ftT 6 t)).length (nds (canT (ftT 6 t)))) (hr2 : Reads W W.heap.size 6 B (canT (ftT 6 t)).length (nds (canT (ftT 6 t)))) => rEqual_any _ _ A B _ _ c d W hr hr2 (by have := hF.len; unfold maxLen; omega) (by have := hF.len; unfold maxLen; omega))
    have HFC := Lib.hid (fun (A : Option Addr) (c : Nat) (W : World) (hr : Reads W W.heap.size 6 A (canT (ftT 6 t)).length (nds (canT (ftT 6 t)))) => pFacts_any _ A _ c W hr (by have := hF.len; unfold maxLen; omega))
    have HTB := Lib.hid (fun (A : Option Addr) (c : Nat) (W : World) (h : Below w.heap.size w W) (hr : Reads W W.heap.size 6 A (canT (ftT 6 t)).length (nds (canT (ftT 6 t)))) => pTable_any _ 6 A _ c W ((hE.1.below h).up h.size) hr (by have := hF.len; unfold maxLen; omega))
    have e1 : fErr (canT (ftT 6 t)) = 0 := hF.ok
    have e2 : maskL fragD (compF (canT (ftT 6 t))) = 0 := hF.frag
    have e3 : compF (canT (ftT 6 t)) = canT (ftT 6 t) := hF.comp
    have e4 : maskL factD (compF (canT (ftT 6 t))) / 64 = 0 := hF.fact
    have e5 : tblE (canT (ftT 6 t)) 6 = 0 := hF.tE
    have e6 : tblV (canT (ftT 6 t)) 6 = t := hF.tV
    rw [e1] at HCK
    rw [e2] at HFR
    rw [e3] at HCO
    rw [decide_eq_true (rfl : canT (ftT 6 t) = canT (ftT 6 t))] at HEQ
    rw [e5, e6] at HTB
    have d4 : (((maskL factD (compF (canT (ftT 6 t))) : Nat) : Int) / 64 != 0) = false := by rw [bne_eq_false_iff_eq]; omega
    have d7 : ((t : Int) == (t : Int)) = true := by simp
    clear e1 e2 e3 e4 e5 e6 hF hz hl ht hE
    generalize maskL factD (compF (canT (ftT 6 t))) = fm at *
    generalize canT (ftT 6 t) = g at *
    go_enter Tryd.func3, Tryd.ntmps3
    go_wp2_with fail
    refine (HFT.out).mono ?_
    rintro e w1 ⟨A1, c1, rfl, hr1, hb1⟩
    have HB1 : Hid (Below w.heap.size w w1) := Lib.hid (HB0.out.trans (hb1.mono HB0.out.size))
    have HR1 := Lib.hid hr1
    clear hr1
    clear hb1
    go_wp2_with fail
    refine (HCK.out _ _ _ HR1.out).mono ?_
    rintro e w2 ⟨rfl, hb2⟩
    have HB2 : Hid (Below w.heap.size w w2) := Lib.hid (HB1.out.trans (hb2.mono HB1.out.size))
    have HR1 := Lib.hid (up8 HR1.out hb2)
    clear hb2
    go_wp2_with fail
    refine (HFR.out _ _ _ HR1.out).mono ?_
    rintro e w3 ⟨rfl, hb3⟩
    have HB3 : Hid (Below w.heap.size w w3) := Lib.hid (HB2.out.trans (hb3.mono HB2.out.size))
    have HR1 := Lib.hid (up8 HR1.out hb3)
    clear hb3
    go_wp2_with fail
    refine (HCO.out _ _ _ HR1.out).mono ?_
    rintro e w4 ⟨A4, c4, rfl, hr4, hb4⟩
    have HB4 : Hid (Below w.heap.size w w4) := Lib.hid (HB3.out.trans (hb4.mono HB3.out.size))
    have HR4 := Lib.hid hr4
    clear hr4
    have HR1 := Lib.hid (up8 HR1.out hb4)
    clear hb4
    go_wp2_with fail
    refine (HEQ.out _ _ _ _ _ HR1.out HR4.out).mono ?_
    rintro e w5 ⟨rfl, hb5⟩
    have HB5 : Hid (Below w.heap.size w w5) := Lib.hid (HB4.out.trans (hb5.mono HB4.out.size))
    have HR1 := Lib.hid (up8 HR1.out hb5)
    clear hb5
    go_wp2_with fail
    refine (HFC.out _ _ _ HR1.out).mono ?_
    rintro e w6 ⟨rfl, hb6⟩
    have HB6 : Hid (Below w.heap.size w w6) := Lib.hid (HB5.out.trans (hb6.mono HB5.out.size))
    have HR1 := Lib.hid (up8 HR1.out hb6)
    clear hb6
    go_wp2_with fail
    refine (HTB.out _ _ _ HB6.out HR1.out).mono ?_
    rintro e w7 ⟨rfl, hb7⟩
    have HB7 : Hid (Below w.heap.size w w7) := Lib.hid (HB6.out.trans (hb7.mono HB6.out.size))
    clear hb7
    go_wp2_with fail
    refine (awake9_any _ ((HE.out.below HB7.out).up HB7.out.size)).mono ?_
    rintro e wz ⟨rfl, hbz⟩
    have HBz := Lib.hid (HB7.out.trans (hbz.mono HB7.out.size))
    clear hbz
    go_wp2
    go_ret
    exact ⟨rfl, HBz.out⟩
set_option maxRecDepth 100000 in
set_option maxHeartbeats 4000000 in
theorem walk (t : Nat) (ht : t < 18446744073709551616) (n : Int) (w : World) (hE : EnvB w w.heap.size ∧ EnvR w w.heap.size) :
    Calls Tryd.prog 3 #[.int .u64 (t : Int), .int .i64 n] w fun e w' => e = .returned (.bool true) ∧ Below w.heap.size w w' := by
  by_cases hn : 0 ≤ n ∧ n ≤ 6
  · have hc : n = 0 ∨ n = 1 ∨ n = 2 ∨ n = 3 ∨ n = 4 ∨ n = 5 ∨ n = 6 := by omega
    rcases hc with rfl | rfl | rfl | rfl | rfl | rfl | rfl
    · exact walk_0 t ht w hE
    · exact walk_1 t ht w hE
    · exact walk_2 t ht w hE
    · exact walk_3 t ht w hE
    · exact walk_4 t ht w hE
    · exact walk_5 t ht w hE
    · exact walk_6 t ht w hE
  · have HE := Lib.hid hE.1
    have HB0 : Hid (Below w.heap.size w w) := Lib.hid (Below.refl _ _)
    have HFT := Lib.hid (fromTable_any t ht n w hE.2)
    have hz : ctE t n = 2 := if_neg hn
    rw [hz, if_neg (by decide)] at HFT
    by_cases h0 : n < 0
    · have d1 : decide (n < 0) = true := decide_eq_true h0
      clear hz hn ht hE h0
      go_enter Tryd.func3, Tryd.ntmps3
      go_wp2_with fail
      refine (HFT.out).mono ?_
      rintro e w1 ⟨A1, c1, rfl, hr1, hb1⟩
      have HB1 : Hid (Below w.heap.size w w1) := Lib.hid (HB0.out.trans (hb1.mono HB0.out.size))
      have HR1 := Lib.hid hr1
      clear hr1
      clear hb1
      go_wp2_with fail
      refine (awake9_any _ ((HE.out.below HB1.out).up HB1.out.size)).mono ?_
      rintro e wz ⟨rfl, hbz⟩
      have HBz := Lib.hid (HB1.out.trans (hbz.mono HB1.out.size))
      clear hbz
      go_wp2
      go_ret
      exact ⟨rfl, HBz.out⟩
    · have d1 : decide (n < 0) = false := decide_eq_false h0
      have d2 : decide (6 < n) = true := decide_eq_true (by omega)
      clear hz hn ht hE h0
      go_enter Tryd.func3, Tryd.ntmps3
      go_wp2_with fail
      refine (HFT.out).mono ?_
      rintro e w1 ⟨A1, c1, rfl, hr1, hb1⟩
      have HB1 : Hid (Below w.heap.size w w1) := Lib.hid (HB0.out.trans (hb1.mono HB0.out.size))
      have HR1 := Lib.hid hr1
      clear hr1
      clear hb1
      go_wp2_with fail
      refine (awake9_any _ ((HE.out.below HB1.out).up HB1.out.size)).mono ?_
      rintro e wz ⟨rfl, hbz⟩
      have HBz := Lib.hid (HB1.out.trans (hbz.mono HB1.out.size))
      clear hbz
      go_wp2
      go_ret
      exact ⟨rfl, HBz.out⟩
set_option maxRecDepth 100000 in
theorem contract (H : Type) (enc : TypeId × Value → H) (W : World) (base : Nat) (args : Array Value) (ds gs : List (DataW H)) (before : List MemPlace)
    (hval : ∀ (j : Nat) t v, Tryd.f3.params[j]? = some t → args[j]? = some v → Value.okWide Tryd.prog W .any base t v)
    (hW : DataW.Whole enc Tryd.prog Tryd.f3.params.toList Rows.booleanBackSpec.vars false W args.toList ds gs before) (hE : EnvB W W.heap.size ∧ EnvR W W.heap.size) :
    Calls Tryd.prog 3 args W fun e W' => ∃ v, e = .returned v ∧ Rows.booleanBackSpec.post enc Tryd.prog Tryd.f3 false true false false W args v W' := by
  have hW' := hW
  obtain ⟨p, q, hA0, hV, rfl, hfz, hnd⟩ := hW
  have hA : DataW.TrodAll enc Tryd.prog W 0 (fun _ => true) true Tryd.f3.params.toList args.toList ds p := hA0
  rw [Tryd.params3] at hA hval
  obtain ⟨v0, vs0, d0, ds0, p0, q0, hargs, rfl, rfl, h0, r0⟩ := trodAll_cons hA
  obtain ⟨v1, vs1, d1, ds1, p1, q1, rfl, rfl, rfl, h1, r1⟩ := trodAll_cons r0
  obtain ⟨rfl, rfl, rfl⟩ := trodAll_nil r1
  obtain rfl : args = #[v0, v1] := by cases args; simp_all
  obtain ⟨rfl, rfl⟩ := trodVars_none hV
  obtain ⟨g0, rfl, rfl, rfl, w0⟩ := open_int Tryd.underlying22 (hval 0 22 v0 rfl rfl) h0
  obtain ⟨g0, rfl, hu0⟩ : ∃ n : Nat, g0 = (n : Int) ∧ n < 18446744073709551616 := by have hz := w0; have q1 : IntKind.u64.min = 0 := rfl; have q2 : IntKind.u64.max = 18446744073709551615 := rfl; simp [Lit.wf] at hz; exact ⟨g0.toNat, by omega, by omega⟩
  obtain ⟨g1, rfl, rfl, rfl, w1⟩ := open_int Tryd.underlying3 (hval 1 3 v1 rfl rfl) h1
  clear hA0
  simp only [List.append_nil] at hW'
  have hwalk := walk g0 hu0 g1 W hE
  refine hwalk.mono fun e W' ⟨he, hg⟩ => ?_
  subst he
  exact ⟨_, rfl, _, _, _, [], _, [], hW', trodAll_mk1 (shut_bool Tryd.underlying4 _), (trodAll_cons_mk (shut_int Tryd.underlying22 w0) (trodAll_cons_mk (shut_int Tryd.underlying3 w1) trodAll_mk0)), rfl, hg.frame _, fun h => by cases h⟩
theorem reads (os : Os) {H : Type} (enc : TypeId × Value → H) : ∃ places, DataW.whole enc Tryd.prog ((laidW os).forCall (fun _ _ => 0) ⟨#[], #[.int .u64 0, .int .i64 0], []⟩).memory Tryd.f3.params.toList Rows.booleanBackSpec.vars false #[(.int .u64 0 : Value), (.int .i64 0 : Value)].toList 8 = some ([.lit (.int .u64 0), .lit (.int .i64 0)], [], places) :=
  ⟨[], by kernel_rfl⟩
set_option maxRecDepth 100000 in
theorem lifted (os : Os) (started : os.Started) (H : Type) (enc : TypeId × Value → H) (F : Stop.Interp) :
    ReturnsInHanded {} Tryd.checked os 3 .any ((OpenSpec.ofChange Rows.booleanBackSpec).preRow enc Tryd.prog Tryd.f3 Rows.booleanBackRow.domain false Rows.booleanBackRow.laid) (((OpenSpec.ofChange Rows.booleanBackSpec).at F).post enc Tryd.prog Tryd.f3 false true false false) := by
  obtain ⟨places, hx⟩ := reads os enc
  refine returnsInHanded_of_row (C := Tryd.checked) (s := OpenSpec.ofChange Rows.booleanBackSpec) own started (by kernel_rfl) Tryd.func3
    (witness_row_atRef (enc := enc) (C := Tryd.checked) false (laidW os) #[.int .u64 0, .int .i64 0] (laidW_os os) (vars_ok os _) (heap_ok os _) (by kernel_rfl)
      (OpenSpec.preRow_of_cond 8 hx (by kernel_rfl) (fun k hk => by cases hk) (by kernel_rfl) (laid_met os _))) ?_
  intro W base args ds gs before hval hW _ _ _ hL hsh _
  exact contract H enc W base args ds gs before hval hW (env_of hL)
theorem said : Rows.BooleanBackSaid :=
  OpenClaim.holds_of_cond 3 Tryd.f3 rfl rfl rfl rfl rfl rfl rfl ⟨rfl, rfl, rfl, rfl, rfl⟩ rfl rfl rfl rfl rfl (by kernel_rfl) Tryd.func3 (by kernel_rfl)
    (of_decide_eq_true (by kernel_rfl)) (by unfold Func.isWrapper; first | (rw [if_pos (by decide +kernel)]; kernel_rfl) | (rw [if_neg (by decide +kernel)]; exact ⟨rfl, rfl⟩))
    (fun os started H enc _ F => by rw [OpenClaim.pre_eq_preRow]; exact lifted os started H enc F)
theorem plain (f : FuncId) (fn : Func) (hf : Tryd.pinned.checked.prog.funcNamed "witting/wittinglaw09.BooleanBack" = some f) (hfn : Tryd.pinned.checked.prog.funcs[f]? = some fn) :
    false = Tryd.pinned.checked.prog.looks [] ∧ ∀ (j : Nat) t, fn.params[j]? = some t → Tryd.pinned.checked.prog.wantsStandIn t = false := by
  obtain rfl : f = 3 := Option.some.inj ((show Tryd.prog.funcNamed "witting/wittinglaw09.BooleanBack" = some 3 by kernel_rfl).symm.trans hf) |>.symm
  obtain rfl : fn = Tryd.f3 := (Option.some.inj (Tryd.func3.symm.trans hfn)).symm
  refine ⟨no_looks, fun j t ht => ?_⟩
  rw [Tryd.params3] at ht
  have hm : t ∈ [22, 3] := by simpa using Array.mem_of_getElem? ht
  have hall : ([22, 3].all fun u => !Tryd.prog.wantsStandIn u) = true := by kernel_rfl
  exact (show Tryd.prog.wantsStandIn t = false by simpa using List.all_eq_true.1 hall t hm)
theorem card : Rows.BooleanBackCardSaid :=
  Claim7.holds_tied_plain_at .later [] _ _ _ _ said (fun _ h => by cases h) (by kernel_rfl) (fun _ h => by cases h) booleanBack_row_tie rfl ⟨rfl, rfl⟩ (by kernel_rfl) rfl plain (by kernel_rfl)
#print axioms card
end Go.Proofs.YtcdmchaehafijaaDoor.booleanBack
