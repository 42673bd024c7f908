/- RelationOrders (P2.6): composition is associative, the converse reverses it, and a composed relation looks through both, for all lists of words. Condition: the listed package variables hold what the program's text lays in them. -/
import Derived.Test.YtogjbghieoifjaaDoorLc
namespace Go.Proofs.YtogjbghieoifjaaDoor.relationOrders
open Go.ChangeShapes Go.WideShapes Go.ChangeAt Go.RowKit Go.Proofs.YtogjbghieoifjaaDoor Go.Proofs.Ws
set_option maxRecDepth 100000 in
set_option maxHeartbeats 3200000 in
theorem walk_big1 (A B D : Option Addr) (n n2 n3 c c2 c3 : Nat) (w : World) (h1 : 64 < n) (hT : Tab w) :
    Calls Tryd.prog 11 #[.slice A n c, .slice B n2 c2, .slice D n3 c3] w fun e w' => e = .returned (.bool true) ∧ Below w.heap.size w w' := by
  have HB : Hid (Below w.heap.size w w) := Lib.hid (Below.refl _ w)
  have HT := Lib.hid hT
  clear hT
  go_enter Tryd.func11, Tryd.ntmps11
  have HX := Lib.hid (awake_any w HT.out)
  go_wp2_with fail
  refine (HX.out).mono ?_
  rintro e w1 ⟨rfl, hb⟩
  clear HX
  replace HB := Lib.hid (HB.out.trans (hb.mono HB.out.size))
  replace HT := Lib.hid (HT.out.below hb)
  clear hb
  go_wp2
  go_ret
  exact ⟨rfl, HB.out⟩
set_option maxRecDepth 100000 in
set_option maxHeartbeats 3200000 in
theorem walk_big2 (A B D : Option Addr) (n n2 n3 c c2 c3 : Nat) (w : World) (h1 : n ≤ 64) (h2 : n2 ≠ n) (hT : Tab w) :
    Calls Tryd.prog 11 #[.slice A n c, .slice B n2 c2, .slice D n3 c3] w fun e w' => e = .returned (.bool true) ∧ Below w.heap.size w w' := by
  have hx2 : ((n2 : Int) != (n : Int)) = true := by simp; omega
  clear h2
  have HB : Hid (Below w.heap.size w w) := Lib.hid (Below.refl _ w)
  have HT := Lib.hid hT
  clear hT
  go_enter Tryd.func11, Tryd.ntmps11
  have HX := Lib.hid (awake_any w HT.out)
  go_wp2_with fail
  refine (HX.out).mono ?_
  rintro e w1 ⟨rfl, hb⟩
  clear HX
  replace HB := Lib.hid (HB.out.trans (hb.mono HB.out.size))
  replace HT := Lib.hid (HT.out.below hb)
  clear hb
  go_wp2
  go_ret
  exact ⟨rfl, HB.out⟩
set_option maxRecDepth 100000 in
set_option maxHeartbeats 3200000 in
theorem walk_big3 (A B D : Option Addr) (n n3 c c2 c3 : Nat) (w : World) (h1 : n ≤ 64) (h3 : n3 ≠ n) (hT : Tab w) :
    Calls Tryd.prog 11 #[.slice A n c, .slice B n c2, .slice D n3 c3] w fun e w' => e = .returned (.bool true) ∧ Below w.heap.size w w' := by
  have hx2 : ((n : Int) != (n : Int)) = false := by simp
  have hx3 : ((n3 : Int) != (n : Int)) = true := by simp; omega
  clear h3
  have HB : Hid (Below w.heap.size w w) := Lib.hid (Below.refl _ w)
  have HT := Lib.hid hT
  clear hT
  go_enter Tryd.func11, Tryd.ntmps11
  have HX := Lib.hid (awake_any w HT.out)
  go_wp2_with fail
  refine (HX.out).mono ?_
  rintro e w1 ⟨rfl, hb⟩
  clear HX
  replace HB := Lib.hid (HB.out.trans (hb.mono HB.out.size))
  replace HT := Lib.hid (HT.out.below hb)
  clear hb
  go_wp2
  go_ret
  exact ⟨rfl, HB.out⟩
set_option maxRecDepth 100000 in
set_option maxHeartbeats 3200000 in
theorem walk_big4 (l s t : List Nat) (A B D : Option Addr) (n c c2 c3 : Nat) (w : World) (hR : Reads w w.heap.size 1 A n (us l)) (hS : Reads w w.heap.size 1 B n (us s)) (hU : Reads w w.heap.size 1 D n (us t)) (hw : Words l) (hw2 : Words s) (hw3 : Words t) (h1 : n ≤ 64) (h0 : relErr n l ≠ 0) (hT : Tab w) :
    Calls Tryd.prog 11 #[.slice A n c, .slice B n c2, .slice D n c3] w fun e w' => e = .returned (.bool true) ∧ Below w.heap.size w w' := by
  have HR := Lib.hid hR
  have HS := Lib.hid hS
  have HU := Lib.hid hU
  have HW := Lib.hid hw
  have HW2 := Lib.hid hw2
  have HW3 := Lib.hid hw3
  clear hR hS hU hw hw2 hw3
  have hxx : ((n : Int) != (n : Int)) = false := by simp
  have hne : (relErr n l != 0) = true := by simp [h0]
  clear h0
  have HB : Hid (Below w.heap.size w w) := Lib.hid (Below.refl _ w)
  have HT := Lib.hid hT
  clear hT
  go_enter Tryd.func11, Tryd.ntmps11
  have HX := Lib.hid (toB_same (check_any (n : Nat) l A n c _ w HR.out HW.out (by unfold maxLen; omega)))
  go_wp2_with fail
  refine (HX.out).mono ?_
  rintro e w1 ⟨rfl, hb⟩
  clear HX
  replace HR := Lib.hid (HR.out.step hb)
  replace HS := Lib.hid (HS.out.step hb)
  replace HU := Lib.hid (HU.out.step hb)
  replace HB := Lib.hid (HB.out.trans (hb.mono HB.out.size))
  replace HT := Lib.hid (HT.out.below hb)
  clear hb
  have HX := Lib.hid (awake_any w1 HT.out)
  go_wp2_with fail
  refine (HX.out).mono ?_
  rintro e w2 ⟨rfl, hb⟩
  clear HX
  replace HR := Lib.hid (HR.out.step hb)
  replace HS := Lib.hid (HS.out.step hb)
  replace HU := Lib.hid (HU.out.step hb)
  replace HB := Lib.hid (HB.out.trans (hb.mono HB.out.size))
  replace HT := Lib.hid (HT.out.below hb)
  clear hb
  go_wp2
  go_ret
  exact ⟨rfl, HB.out⟩
set_option maxRecDepth 100000 in
set_option maxHeartbeats 3200000 in
theorem walk_big5 (l s t : List Nat) (A B D : Option Addr) (n c c2 c3 : Nat) (w : World) (hR : Reads w w.heap.size 1 A n (us l)) (hS : Reads w w.heap.size 1 B n (us s)) (hU : Reads w w.heap.size 1 D n (us t)) (hw : Words l) (hw2 : Words s) (hw3 : Words t) (h1 : n ≤ 64) (h0 : relErr n l = 0) (h0' : relErr n s ≠ 0) (hT : Tab w) :
    Calls Tryd.prog 11 #[.slice A n c, .slice B n c2, .slice D n c3] w fun e w' => e = .returned (.bool true) ∧ Below w.heap.size w w' := by
  have HR := Lib.hid hR
  have HS := Lib.hid hS
  have HU := Lib.hid hU
  have HW := Lib.hid hw
  have HW2 := Lib.hid hw2
  have HW3 := Lib.hid hw3
  clear hR hS hU hw hw2 hw3
  have hxx : ((n : Int) != (n : Int)) = false := by simp
  have hne : (relErr n s != 0) = true := by simp [h0']
  clear h0'
  have HB : Hid (Below w.heap.size w w) := Lib.hid (Below.refl _ w)
  have HT := Lib.hid hT
  clear hT
  go_enter Tryd.func11, Tryd.ntmps11
  have HX := Lib.hid (toB_same (check_any (n : Nat) l A n c _ w HR.out HW.out (by unfold maxLen; omega)))
  go_wp2_with fail
  refine (HX.out).mono ?_
  rintro e w1 ⟨rfl, hb⟩
  clear HX
  replace HR := Lib.hid (HR.out.step hb)
  replace HS := Lib.hid (HS.out.step hb)
  replace HU := Lib.hid (HU.out.step hb)
  replace HB := Lib.hid (HB.out.trans (hb.mono HB.out.size))
  replace HT := Lib.hid (HT.out.below hb)
  clear hb
  have HX := Lib.hid (toB_same (check_any (n : Nat) s B n c2 _ w1 HS.out HW2.out (by unfold maxLen; omega)))
  go_wp2_with fail
  refine (HX.out).mono ?_
  rintro e w2 ⟨rfl, hb⟩
  clear HX
  replace HR := Lib.hid (HR.out.step hb)
  replace HS := Lib.hid (HS.out.step hb)
  replace HU := Lib.hid (HU.out.step hb)
  replace HB := Lib.hid (HB.out.trans (hb.mono HB.out.size))
  replace HT := Lib.hid (HT.out.below hb)
  clear hb
  have HX := Lib.hid (awake_any w2 HT.out)
  go_wp2_with fail
  refine (HX.out).mono ?_
  rintro e w3 ⟨rfl, hb⟩
  clear HX
  replace HR := Lib.hid (HR.out.step hb)
  replace HS := Lib.hid (HS.out.step hb)
  replace HU := Lib.hid (HU.out.step hb)
  replace HB := Lib.hid (HB.out.trans (hb.mono HB.out.size))
  replace HT := Lib.hid (HT.out.below hb)
  clear hb
  go_wp2
  go_ret
  exact ⟨rfl, HB.out⟩
set_option maxRecDepth 100000 in
set_option maxHeartbeats 3200000 in
theorem walk_big6 (l s t : List Nat) (A B D : Option Addr) (n c c2 c3 : Nat) (w : World) (hR : Reads w w.heap.size 1 A n (us l)) (hS : Reads w w.heap.size 1 B n (us s)) (hU : Reads w w.heap.size 1 D n (us t)) (hw : Words l) (hw2 : Words s) (hw3 : Words t) (h1 : n ≤ 64) (h0 : relErr n l = 0) (h0' : relErr n s = 0) (h0'' : relErr n t ≠ 0) (hT : Tab w) :
    Calls Tryd.prog 11 #[.slice A n c, .slice B n c2, .slice D n c3] w fun e w' => e = .returned (.bool true) ∧ Below w.heap.size w w' := by
  have HR := Lib.hid hR
  have HS := Lib.hid hS
  have HU := Lib.hid hU
  have HW := Lib.hid hw
  have HW2 := Lib.hid hw2
  have HW3 := Lib.hid hw3
  clear hR hS hU hw hw2 hw3
  have hxx : ((n : Int) != (n : Int)) = false := by simp
  have hne : (relErr n t != 0) = true := by simp [h0'']
  clear h0''
  have HB : Hid (Below w.heap.size w w) := Lib.hid (Below.refl _ w)
  have HT := Lib.hid hT
  clear hT
  go_enter Tryd.func11, Tryd.ntmps11
  have HX := Lib.hid (toB_same (check_any (n : Nat) l A n c _ w HR.out HW.out (by unfold maxLen; omega)))
  go_wp2_with fail
  refine (HX.out).mono ?_
  rintro e w1 ⟨rfl, hb⟩
  clear HX
  replace HR := Lib.hid (HR.out.step hb)
  replace HS := Lib.hid (HS.out.step hb)
  replace HU := Lib.hid (HU.out.step hb)
  replace HB := Lib.hid (HB.out.trans (hb.mono HB.out.size))
  replace HT := Lib.hid (HT.out.below hb)
  clear hb
  have HX := Lib.hid (toB_same (check_any (n : Nat) s B n c2 _ w1 HS.out HW2.out (by unfold maxLen; omega)))
  go_wp2_with fail
  refine (HX.out).mono ?_
  rintro e w2 ⟨rfl, hb⟩
  clear HX
  replace HR := Lib.hid (HR.out.step hb)
  replace HS := Lib.hid (HS.out.step hb)
  replace HU := Lib.hid (HU.out.step hb)
  replace HB := Lib.hid (HB.out.trans (hb.mono HB.out.size))
  replace HT := Lib.hid (HT.out.below hb)
  clear hb
  have HX := Lib.hid (toB_same (check_any (n : Nat) t D n c3 _ w2 HU.out HW3.out (by unfold maxLen; omega)))
  go_wp2_with fail
  refine (HX.out).mono ?_
  rintro e w3 ⟨rfl, hb⟩
  clear HX
  replace HR := Lib.hid (HR.out.step hb)
  replace HS := Lib.hid (HS.out.step hb)
  replace HU := Lib.hid (HU.out.step hb)
  replace HB := Lib.hid (HB.out.trans (hb.mono HB.out.size))
  replace HT := Lib.hid (HT.out.below hb)
  clear hb
  have HX := Lib.hid (awake_any w3 HT.out)
  go_wp2_with fail
  refine (HX.out).mono ?_
  rintro e w4 ⟨rfl, hb⟩
  clear HX
  replace HR := Lib.hid (HR.out.step hb)
  replace HS := Lib.hid (HS.out.step hb)
  replace HU := Lib.hid (HU.out.step hb)
  replace HB := Lib.hid (HB.out.trans (hb.mono HB.out.size))
  replace HT := Lib.hid (HT.out.below hb)
  clear hb
  go_wp2
  go_ret
  exact ⟨rfl, HB.out⟩
set_option maxRecDepth 100000 in
set_option maxHeartbeats 6400000 in
theorem walk_small (l s t : List Nat) (A B D : Option Addr) (n c c2 c3 : Nat) (w : World) (hR : Reads w w.heap.size 1 A n (us l)) (hS : Reads w w.heap.size 1 B n (us s)) (hU : Reads w w.heap.size 1 D n (us t)) (hw : Words l) (hw2 : Words s) (hw3 : Words t) (h1 : n ≤ 64) (h0 : relErr n l = 0) (h0' : relErr n s = 0) (h0'' : relErr n t = 0) (hT : Tab w) :
    Calls Tryd.prog 11 #[.slice A n c, .slice B n c2, .slice D n c3] w fun e w' => e = .returned (.bool true) ∧ Below w.heap.size w w' := by
  have HL : Hid (Sh n l) := Lib.hid (rel_sh h0 hR.word_len)
  have HLS : Hid (Sh n s) := Lib.hid (rel_sh h0' hS.word_len)
  have HLT : Hid (Sh n t) := Lib.hid (rel_sh h0'' hU.word_len)
  have HA : Hid (composeV (composeV l s) t = composeV l (composeV s t)) := Lib.hid (compose_assoc h1 HL.out HLS.out HLT.out)
  have HX : Hid (convV (composeV l s) = composeV (convV s) (convV l)) := Lib.hid (compose_conv h1 HL.out HLS.out)
  have HLA : Hid (Sh n (composeV l s)) := Lib.hid (compose_sh HL.out.1 HLS.out)
  have HLC : Hid (Sh n (composeV s t)) := Lib.hid (compose_sh HLS.out.1 HLT.out)
  have HD1 := Lib.hid (fun x => compose_dia h1 HL.out HLS.out x)
  have HD2 := Lib.hid (fun x (hx : x < 18446744073709551616) => compose_box h1 HL.out HLS.out x hx)
  have HD3 := Lib.hid (fun x => pow64 h1 (dia_lt h0' HLS.out.1 x))
  have HD4 := Lib.hid (fun x (hx : x < 18446744073709551616) => pow64 h1 (box_lt h0' HLS.out.1 x hx))
  have HEX := HX
  clear HX
  have HR := Lib.hid hR
  have HS := Lib.hid hS
  have HU := Lib.hid hU
  have HW := Lib.hid hw
  have HW2 := Lib.hid hw2
  have HW3 := Lib.hid hw3
  clear hR hS hU hw hw2 hw3
  have hxx : ((n : Int) != (n : Int)) = false := by simp
  have HB : Hid (Below w.heap.size w w) := Lib.hid (Below.refl _ w)
  have HT := Lib.hid hT
  clear hT
  go_enter Tryd.func11, Tryd.ntmps11
  have HX := Lib.hid (toB_same (check_any (n : Nat) l A n c _ w HR.out HW.out (by unfold maxLen; omega)))
  go_wp2_with fail
  refine (HX.out).mono ?_
  rintro e w1 ⟨rfl, hb⟩
  clear HX
  replace HR := Lib.hid (HR.out.step hb)
  replace HS := Lib.hid (HS.out.step hb)
  replace HU := Lib.hid (HU.out.step hb)
  replace HB := Lib.hid (HB.out.trans (hb.mono HB.out.size))
  replace HT := Lib.hid (HT.out.below hb)
  clear hb
  have HX := Lib.hid (toB_same (check_any (n : Nat) s B n c2 _ w1 HS.out HW2.out (by unfold maxLen; omega)))
  go_wp2_with fail
  refine (HX.out).mono ?_
  rintro e w2 ⟨rfl, hb⟩
  clear HX
  replace HR := Lib.hid (HR.out.step hb)
  replace HS := Lib.hid (HS.out.step hb)
  replace HU := Lib.hid (HU.out.step hb)
  replace HB := Lib.hid (HB.out.trans (hb.mono HB.out.size))
  replace HT := Lib.hid (HT.out.below hb)
  clear hb
  have HX := Lib.hid (toB_same (check_any (n : Nat) t D n c3 _ w2 HU.out HW3.out (by unfold maxLen; omega)))
  go_wp2_with fail
  refine (HX.out).mono ?_
  rintro e w3 ⟨rfl, hb⟩
  clear HX
  replace HR := Lib.hid (HR.out.step hb)
  replace HS := Lib.hid (HS.out.step hb)
  replace HU := Lib.hid (HU.out.step hb)
  replace HB := Lib.hid (HB.out.trans (hb.mono HB.out.size))
  replace HT := Lib.hid (HT.out.below hb)
  clear hb
  have HX := Lib.hid (k_compose l s A B n c c2 w3 HR.out HS.out h1 HL.out HLS.out HT.out)
  go_wp2_with fail
  refine (HX.out).mono ?_
  rintro e w4 ⟨A1, k1, rfl, hr1, hb⟩
  clear HX
  replace HR := Lib.hid (HR.out.step hb)
  replace HS := Lib.hid (HS.out.step hb)
  replace HU := Lib.hid (HU.out.step hb)
  replace HB := Lib.hid (HB.out.trans (hb.mono HB.out.size))
  replace HT := Lib.hid (HT.out.below hb)
  have H1 := Lib.hid hr1
  clear hr1
  clear hb
  have HX := Lib.hid (k_compose (composeV l s) t A1 D n k1 c3 w4 H1.out HU.out h1 HLA.out HLT.out HT.out)
  go_wp2_with fail
  refine (HX.out).mono ?_
  rintro e w5 ⟨A2, k2, rfl, hr2, hb⟩
  clear HX
  replace HR := Lib.hid (HR.out.step hb)
  replace HS := Lib.hid (HS.out.step hb)
  replace HU := Lib.hid (HU.out.step hb)
  replace H1 := Lib.hid (H1.out.step hb)
  replace HB := Lib.hid (HB.out.trans (hb.mono HB.out.size))
  replace HT := Lib.hid (HT.out.below hb)
  have H2 := Lib.hid hr2
  clear hr2
  clear hb
  have HX := Lib.hid (k_compose s t B D n c2 c3 w5 HS.out HU.out h1 HLS.out HLT.out HT.out)
  go_wp2_with fail
  refine (HX.out).mono ?_
  rintro e w6 ⟨A3, k3, rfl, hr3, hb⟩
  clear HX
  replace HR := Lib.hid (HR.out.step hb)
  replace HS := Lib.hid (HS.out.step hb)
  replace HU := Lib.hid (HU.out.step hb)
  replace H1 := Lib.hid (H1.out.step hb)
  replace H2 := Lib.hid (H2.out.step hb)
  replace HB := Lib.hid (HB.out.trans (hb.mono HB.out.size))
  replace HT := Lib.hid (HT.out.below hb)
  have H3 := Lib.hid hr3
  clear hr3
  clear hb
  have HX := Lib.hid (k_compose l (composeV s t) A A3 n c k3 w6 HR.out H3.out h1 HL.out HLC.out HT.out)
  go_wp2_with fail
  refine (HX.out).mono ?_
  rintro e w7 ⟨A4, k4, rfl, hr4, hb⟩
  clear HX
  replace HR := Lib.hid (HR.out.step hb)
  replace HS := Lib.hid (HS.out.step hb)
  replace HU := Lib.hid (HU.out.step hb)
  replace H1 := Lib.hid (H1.out.step hb)
  replace H2 := Lib.hid (H2.out.step hb)
  replace H3 := Lib.hid (H3.out.step hb)
  replace HB := Lib.hid (HB.out.trans (hb.mono HB.out.size))
  replace HT := Lib.hid (HT.out.below hb)
  have H4 := Lib.hid hr4
  clear hr4
  clear hb
  have HX := Lib.hid (k_converse (composeV l s) A1 n k1 w7 H1.out h1 HLA.out HT.out)
  go_wp2_with fail
  refine (HX.out).mono ?_
  rintro e w8 ⟨A5, k5, rfl, hr5, hb⟩
  clear HX
  replace HR := Lib.hid (HR.out.step hb)
  replace HS := Lib.hid (HS.out.step hb)
  replace HU := Lib.hid (HU.out.step hb)
  replace H1 := Lib.hid (H1.out.step hb)
  replace H2 := Lib.hid (H2.out.step hb)
  replace H3 := Lib.hid (H3.out.step hb)
  replace H4 := Lib.hid (H4.out.step hb)
  replace HB := Lib.hid (HB.out.trans (hb.mono HB.out.size))
  replace HT := Lib.hid (HT.out.below hb)
  have H5 := Lib.hid hr5
  clear hr5
  clear hb
  have HX := Lib.hid (k_converse l A n c w8 HR.out h1 HL.out HT.out)
  go_wp2_with fail
  refine (HX.out).mono ?_
  rintro e w9 ⟨A6, k6, rfl, hr6, hb⟩
  clear HX
  replace HR := Lib.hid (HR.out.step hb)
  replace HS := Lib.hid (HS.out.step hb)
  replace HU := Lib.hid (HU.out.step hb)
  replace H1 := Lib.hid (H1.out.step hb)
  replace H2 := Lib.hid (H2.out.step hb)
  replace H3 := Lib.hid (H3.out.step hb)
  replace H4 := Lib.hid (H4.out.step hb)
  replace H5 := Lib.hid (H5.out.step hb)
  replace HB := Lib.hid (HB.out.trans (hb.mono HB.out.size))
  replace HT := Lib.hid (HT.out.below hb)
  have H6 := Lib.hid hr6
  clear hr6
  clear hb
  have HX := Lib.hid (k_converse s B n c2 w9 HS.out h1 HLS.out HT.out)
  go_wp2_with fail
  refine (HX.out).mono ?_
  rintro e w10 ⟨A7, k7, rfl, hr7, hb⟩
  clear HX
  replace HR := Lib.hid (HR.out.step hb)
  replace HS := Lib.hid (HS.out.step hb)
  replace HU := Lib.hid (HU.out.step hb)
  replace H1 := Lib.hid (H1.out.step hb)
  replace H2 := Lib.hid (H2.out.step hb)
  replace H3 := Lib.hid (H3.out.step hb)
  replace H4 := Lib.hid (H4.out.step hb)
  replace H5 := Lib.hid (H5.out.step hb)
  replace H6 := Lib.hid (H6.out.step hb)
  replace HB := Lib.hid (HB.out.trans (hb.mono HB.out.size))
  replace HT := Lib.hid (HT.out.below hb)
  have H7 := Lib.hid hr7
  clear hr7
  clear hb
  have HX := Lib.hid (k_compose (convV s) (convV l) A7 A6 n k7 k6 w10 H7.out H6.out h1 (conv_sh' HLS.out) (conv_sh' HL.out) HT.out)
  go_wp2_with fail
  refine (HX.out).mono ?_
  rintro e w11 ⟨A8, k8, rfl, hr8, hb⟩
  clear HX
  replace HR := Lib.hid (HR.out.step hb)
  replace HS := Lib.hid (HS.out.step hb)
  replace HU := Lib.hid (HU.out.step hb)
  replace H1 := Lib.hid (H1.out.step hb)
  replace H2 := Lib.hid (H2.out.step hb)
  replace H3 := Lib.hid (H3.out.step hb)
  replace H4 := Lib.hid (H4.out.step hb)
  replace H5 := Lib.hid (H5.out.step hb)
  replace H6 := Lib.hid (H6.out.step hb)
  replace H7 := Lib.hid (H7.out.step hb)
  replace HB := Lib.hid (HB.out.trans (hb.mono HB.out.size))
  replace HT := Lib.hid (HT.out.below hb)
  have H8 := Lib.hid hr8
  clear hr8
  clear hb
  clear H3
  clear H6
  clear H7
  replace H4 := Lib.hid (HA.out ▸ H4.out)
  replace H8 := Lib.hid (HEX.out ▸ H8.out)
  have HX := Lib.hid (same_self _ A2 A4 n n k2 k4 w11 H2.out H4.out h1 h1)
  go_wp2_with fail
  refine (HX.out).mono ?_
  rintro e w12 ⟨rfl, hb⟩
  clear HX
  replace HR := Lib.hid (HR.out.step hb)
  replace HS := Lib.hid (HS.out.step hb)
  replace HU := Lib.hid (HU.out.step hb)
  replace H1 := Lib.hid (H1.out.step hb)
  replace H2 := Lib.hid (H2.out.step hb)
  replace H4 := Lib.hid (H4.out.step hb)
  replace H5 := Lib.hid (H5.out.step hb)
  replace H8 := Lib.hid (H8.out.step hb)
  replace HB := Lib.hid (HB.out.trans (hb.mono HB.out.size))
  replace HT := Lib.hid (HT.out.below hb)
  clear hb
  clear H2
  clear H4
  have HX := Lib.hid (same_self _ A5 A8 n n k5 k8 w12 H5.out H8.out h1 h1)
  go_wp2_with fail
  refine (HX.out).mono ?_
  rintro e w13 ⟨rfl, hb⟩
  clear HX
  replace HR := Lib.hid (HR.out.step hb)
  replace HS := Lib.hid (HS.out.step hb)
  replace HU := Lib.hid (HU.out.step hb)
  replace H1 := Lib.hid (H1.out.step hb)
  replace H5 := Lib.hid (H5.out.step hb)
  replace H8 := Lib.hid (H8.out.step hb)
  replace HB := Lib.hid (HB.out.trans (hb.mono HB.out.size))
  replace HT := Lib.hid (HT.out.below hb)
  clear hb
  clear H5
  clear H8
  by_cases hn0 : n = 0
  · subst hn0
    have HSV : Hid ((0 : Nat) < 18446744073709551616) := Lib.hid (by omega)
    have heq1 : ((dia (composeV l s) 0 : Int) == (dia l (dia s 0) : Int)) = true := by rw [HD1.out]; simp
    have heq2 : ((box (composeV l s) 0 : Int) == (box l (box s 0) : Int)) = true := by rw [HD2.out _ HSV.out]; simp
    have HX := Lib.hid (k_dia (composeV l s) 0 A1 0 k1 w13 H1.out h1 HLA.out HSV.out)
    go_wp2_with fail
    refine (HX.out).mono ?_
    rintro e w14 ⟨rfl, hb⟩
    clear HX
    replace HR := Lib.hid (HR.out.step hb)
    replace HS := Lib.hid (HS.out.step hb)
    replace HU := Lib.hid (HU.out.step hb)
    replace H1 := Lib.hid (H1.out.step hb)
    replace HB := Lib.hid (HB.out.trans (hb.mono HB.out.size))
    replace HT := Lib.hid (HT.out.below hb)
    clear hb
    have HX := Lib.hid (k_dia s 0 B 0 c2 w14 HS.out h1 HLS.out HSV.out)
    go_wp2_with fail
    refine (HX.out).mono ?_
    rintro e w15 ⟨rfl, hb⟩
    clear HX
    replace HR := Lib.hid (HR.out.step hb)
    replace HS := Lib.hid (HS.out.step hb)
    replace HU := Lib.hid (HU.out.step hb)
    replace H1 := Lib.hid (H1.out.step hb)
    replace HB := Lib.hid (HB.out.trans (hb.mono HB.out.size))
    replace HT := Lib.hid (HT.out.below hb)
    clear hb
    have HX := Lib.hid (k_dia l (dia s 0) A 0 c w15 HR.out h1 HL.out (HD3.out _))
    go_wp2_with fail
    refine (HX.out).mono ?_
    rintro e w16 ⟨rfl, hb⟩
    clear HX
    replace HR := Lib.hid (HR.out.step hb)
    replace HS := Lib.hid (HS.out.step hb)
    replace HU := Lib.hid (HU.out.step hb)
    replace H1 := Lib.hid (H1.out.step hb)
    replace HB := Lib.hid (HB.out.trans (hb.mono HB.out.size))
    replace HT := Lib.hid (HT.out.below hb)
    clear hb
    have HX := Lib.hid (k_box (composeV l s) 0 A1 0 k1 w16 H1.out h1 HLA.out HSV.out)
    go_wp2_with fail
    refine (HX.out).mono ?_
    rintro e w17 ⟨rfl, hb⟩
    clear HX
    replace HR := Lib.hid (HR.out.step hb)
    replace HS := Lib.hid (HS.out.step hb)
    replace HU := Lib.hid (HU.out.step hb)
    replace H1 := Lib.hid (H1.out.step hb)
    replace HB := Lib.hid (HB.out.trans (hb.mono HB.out.size))
    replace HT := Lib.hid (HT.out.below hb)
    clear hb
    have HX := Lib.hid (k_box s 0 B 0 c2 w17 HS.out h1 HLS.out HSV.out)
    go_wp2_with fail
    refine (HX.out).mono ?_
    rintro e w18 ⟨rfl, hb⟩
    clear HX
    replace HR := Lib.hid (HR.out.step hb)
    replace HS := Lib.hid (HS.out.step hb)
    replace HU := Lib.hid (HU.out.step hb)
    replace H1 := Lib.hid (H1.out.step hb)
    replace HB := Lib.hid (HB.out.trans (hb.mono HB.out.size))
    replace HT := Lib.hid (HT.out.below hb)
    clear hb
    have HX := Lib.hid (k_box l (box s 0) A 0 c w18 HR.out h1 HL.out (HD4.out _ HSV.out))
    go_wp2_with fail
    refine (HX.out).mono ?_
    rintro e w19 ⟨rfl, hb⟩
    clear HX
    replace HR := Lib.hid (HR.out.step hb)
    replace HS := Lib.hid (HS.out.step hb)
    replace HU := Lib.hid (HU.out.step hb)
    replace H1 := Lib.hid (H1.out.step hb)
    replace HB := Lib.hid (HB.out.trans (hb.mono HB.out.size))
    replace HT := Lib.hid (HT.out.below hb)
    clear hb
    have HX := Lib.hid (awake_any w19 HT.out)
    go_wp2_with fail
    refine (HX.out).mono ?_
    rintro e w20 ⟨rfl, hb⟩
    clear HX
    replace HR := Lib.hid (HR.out.step hb)
    replace HS := Lib.hid (HS.out.step hb)
    replace HU := Lib.hid (HU.out.step hb)
    replace H1 := Lib.hid (H1.out.step hb)
    replace HB := Lib.hid (HB.out.trans (hb.mono HB.out.size))
    replace HT := Lib.hid (HT.out.below hb)
    clear hb
    go_wp2
    go_ret
    exact ⟨rfl, HB.out⟩
  · obtain ⟨ad, rfl, _, hc0⟩ := HU.out.word_k (show 0 < n by omega)
    have hpos : 0 < n := by omega
    have HSV : Hid (t.getD 0 0 < 18446744073709551616) := Lib.hid (words_getD HW3.out 0)
    generalize t.getD 0 0 = x at *
    have hc0' : w13.cell? ad = some (.int .u64 (x : Int)) := by have := hc0; unfold Addr.add at this; rw [if_pos rfl] at this; exact this
    have heq1 : ((dia (composeV l s) x : Int) == (dia l (dia s x) : Int)) = true := by rw [HD1.out]; simp
    have heq2 : ((box (composeV l s) x : Int) == (box l (box s x) : Int)) = true := by rw [HD2.out _ HSV.out]; simp
    have HX := Lib.hid (k_dia (composeV l s) x A1 n k1 w13 H1.out h1 HLA.out HSV.out)
    go_wp2_with fail
    refine (HX.out).mono ?_
    rintro e w14 ⟨rfl, hb⟩
    clear HX
    replace HR := Lib.hid (HR.out.step hb)
    replace HS := Lib.hid (HS.out.step hb)
    replace HU := Lib.hid (HU.out.step hb)
    replace H1 := Lib.hid (H1.out.step hb)
    replace HB := Lib.hid (HB.out.trans (hb.mono HB.out.size))
    replace HT := Lib.hid (HT.out.below hb)
    clear hb
    have HX := Lib.hid (k_dia s x B n c2 w14 HS.out h1 HLS.out HSV.out)
    go_wp2_with fail
    refine (HX.out).mono ?_
    rintro e w15 ⟨rfl, hb⟩
    clear HX
    replace HR := Lib.hid (HR.out.step hb)
    replace HS := Lib.hid (HS.out.step hb)
    replace HU := Lib.hid (HU.out.step hb)
    replace H1 := Lib.hid (H1.out.step hb)
    replace HB := Lib.hid (HB.out.trans (hb.mono HB.out.size))
    replace HT := Lib.hid (HT.out.below hb)
    clear hb
    have HX := Lib.hid (k_dia l (dia s x) A n c w15 HR.out h1 HL.out (HD3.out _))
    go_wp2_with fail
    refine (HX.out).mono ?_
    rintro e w16 ⟨rfl, hb⟩
    clear HX
    replace HR := Lib.hid (HR.out.step hb)
    replace HS := Lib.hid (HS.out.step hb)
    replace HU := Lib.hid (HU.out.step hb)
    replace H1 := Lib.hid (H1.out.step hb)
    replace HB := Lib.hid (HB.out.trans (hb.mono HB.out.size))
    replace HT := Lib.hid (HT.out.below hb)
    clear hb
    have HX := Lib.hid (k_box (composeV l s) x A1 n k1 w16 H1.out h1 HLA.out HSV.out)
    go_wp2_with fail
    refine (HX.out).mono ?_
    rintro e w17 ⟨rfl, hb⟩
    clear HX
    replace HR := Lib.hid (HR.out.step hb)
    replace HS := Lib.hid (HS.out.step hb)
    replace HU := Lib.hid (HU.out.step hb)
    replace H1 := Lib.hid (H1.out.step hb)
    replace HB := Lib.hid (HB.out.trans (hb.mono HB.out.size))
    replace HT := Lib.hid (HT.out.below hb)
    clear hb
    have HX := Lib.hid (k_box s x B n c2 w17 HS.out h1 HLS.out HSV.out)
    go_wp2_with fail
    refine (HX.out).mono ?_
    rintro e w18 ⟨rfl, hb⟩
    clear HX
    replace HR := Lib.hid (HR.out.step hb)
    replace HS := Lib.hid (HS.out.step hb)
    replace HU := Lib.hid (HU.out.step hb)
    replace H1 := Lib.hid (H1.out.step hb)
    replace HB := Lib.hid (HB.out.trans (hb.mono HB.out.size))
    replace HT := Lib.hid (HT.out.below hb)
    clear hb
    have HX := Lib.hid (k_box l (box s x) A n c w18 HR.out h1 HL.out (HD4.out _ HSV.out))
    go_wp2_with fail
    refine (HX.out).mono ?_
    rintro e w19 ⟨rfl, hb⟩
    clear HX
    replace HR := Lib.hid (HR.out.step hb)
    replace HS := Lib.hid (HS.out.step hb)
    replace HU := Lib.hid (HU.out.step hb)
    replace H1 := Lib.hid (H1.out.step hb)
    replace HB := Lib.hid (HB.out.trans (hb.mono HB.out.size))
    replace HT := Lib.hid (HT.out.below hb)
    clear hb
    have HX := Lib.hid (awake_any w19 HT.out)
    go_wp2_with fail
    refine (HX.out).mono ?_
    rintro e w20 ⟨rfl, hb⟩
    clear HX
    replace HR := Lib.hid (HR.out.step hb)
    replace HS := Lib.hid (HS.out.step hb)
    replace HU := Lib.hid (HU.out.step hb)
    replace H1 := Lib.hid (H1.out.step hb)
    replace HB := Lib.hid (HB.out.trans (hb.mono HB.out.size))
    replace HT := Lib.hid (HT.out.below hb)
    clear hb
    go_wp2
    go_ret
    exact ⟨rfl, HB.out⟩
set_option maxRecDepth 100000 in
theorem contract (H : Type) (enc : TypeId × Value → H) (W : World) (base : Nat) (args : Array Value) (ds gs : List (DataW H)) (before : List MemPlace)
    (hval : ∀ (j : Nat) t v, Tryd.f11.params[j]? = some t → args[j]? = some v → Value.okWide Tryd.prog W .any base t v)
    (hW : DataW.Whole enc Tryd.prog Tryd.f11.params.toList Rows.relationOrdersSpec.vars false W args.toList ds gs before) (hE : Tab W) :
    Calls Tryd.prog 11 args W fun e W' => ∃ v, e = .returned v ∧ Rows.relationOrdersSpec.post enc Tryd.prog Tryd.f11 false true false false W args v W' := by
  have hW' := hW
  obtain ⟨p, q, hA0, hV, rfl, hfz, hnd⟩ := hW
  have hA : DataW.TrodAll enc Tryd.prog W 0 (fun _ => true) true Tryd.f11.params.toList args.toList ds p := hA0
  rw [Tryd.params11] at hA hval
  obtain ⟨v0, vs0, d0, ds0, p0, q0, hargs, rfl, rfl, h0, r0⟩ := trodAll_cons hA
  obtain ⟨v1, vs1, d1, ds1, p1, q1, rfl, rfl, rfl, h1, r1⟩ := trodAll_cons r0
  obtain ⟨v2, vs2, d2, ds2, p2, q2, rfl, rfl, rfl, h2, r2⟩ := trodAll_cons r1
  obtain ⟨rfl, rfl, rfl⟩ := trodAll_nil r2
  obtain rfl : args = #[v0, v1, v2] := by cases args; simp_all
  obtain ⟨rfl, rfl⟩ := trodVars_none hV
  obtain ⟨A0, n0, c0, rfl⟩ := okWide_slice Tryd.underlying22 (hval 0 22 v0 rfl rfl)
  have k0 := h0
  have lt0 : ∀ x ∈ p0, x.block < W.heap.size := by obtain ⟨m, hm⟩ := k0; exact DataW.trod_lt m _ _ _ hm
  obtain ⟨z0, w0⟩ : ∃ zs, IsRow .u64 W A0 n0 c0 zs := by
    obtain ⟨fuel, hf⟩ := h0
    rcases open_ints Tryd.underlying22 Tryd.underlying34 (by kernel_rfl) hf with ⟨hcs, _⟩ | ⟨x, l, c, zs, hcs, _, hl, hm, hz, _, hcell, hwz⟩
    · simp [Value.cells] at hcs
      obtain ⟨rfl, rfl, rfl⟩ := hcs
      exact ⟨[], .inl ⟨rfl, rfl, rfl, rfl⟩⟩
    · simp [Value.cells] at hcs
      obtain ⟨rfl, rfl, rfl⟩ := hcs
      exact ⟨zs, .inr ⟨_, rfl, hl, hm, by simpa using hz, hcell, hwz⟩⟩
  obtain ⟨A1, n1, c1, rfl⟩ := okWide_slice Tryd.underlying22 (hval 1 22 v1 rfl rfl)
  have k1 := h1
  have lt1 : ∀ x ∈ p1, x.block < W.heap.size := by obtain ⟨m, hm⟩ := k1; exact DataW.trod_lt m _ _ _ hm
  obtain ⟨z1, w1⟩ : ∃ zs, IsRow .u64 W A1 n1 c1 zs := by
    obtain ⟨fuel, hf⟩ := h1
    rcases open_ints Tryd.underlying22 Tryd.underlying34 (by kernel_rfl) hf with ⟨hcs, _⟩ | ⟨x, l, c, zs, hcs, _, hl, hm, hz, _, hcell, hwz⟩
    · simp [Value.cells] at hcs
      obtain ⟨rfl, rfl, rfl⟩ := hcs
      exact ⟨[], .inl ⟨rfl, rfl, rfl, rfl⟩⟩
    · simp [Value.cells] at hcs
      obtain ⟨rfl, rfl, rfl⟩ := hcs
      exact ⟨zs, .inr ⟨_, rfl, hl, hm, by simpa using hz, hcell, hwz⟩⟩
  obtain ⟨A2, n2, c2, rfl⟩ := okWide_slice Tryd.underlying22 (hval 2 22 v2 rfl rfl)
  have k2 := h2
  have lt2 : ∀ x ∈ p2, x.block < W.heap.size := by obtain ⟨m, hm⟩ := k2; exact DataW.trod_lt m _ _ _ hm
  obtain ⟨z2, w2⟩ : ∃ zs, IsRow .u64 W A2 n2 c2 zs := by
    obtain ⟨fuel, hf⟩ := h2
    rcases open_ints Tryd.underlying22 Tryd.underlying34 (by kernel_rfl) hf with ⟨hcs, _⟩ | ⟨x, l, c, zs, hcs, _, hl, hm, hz, _, hcell, hwz⟩
    · simp [Value.cells] at hcs
      obtain ⟨rfl, rfl, rfl⟩ := hcs
      exact ⟨[], .inl ⟨rfl, rfl, rfl, rfl⟩⟩
    · simp [Value.cells] at hcs
      obtain ⟨rfl, rfl, rfl⟩ := hcs
      exact ⟨zs, .inr ⟨_, rfl, hl, hm, by simpa using hz, hcell, hwz⟩⟩
  clear hA0
  obtain ⟨l0, hR0, hw0, hm0, hN0⟩ := w0.words
  obtain ⟨l1, hR1, hw1, hm1, hN1⟩ := w1.words
  obtain ⟨l2, hR2, hw2, hm2, hN2⟩ := w2.words
  have hwalk : Calls Tryd.prog 11 #[.slice A0 n0 c0, .slice A1 n1 c1, .slice A2 n2 c2] W fun e w' => e = .returned (.bool true) ∧ Below W.heap.size W w' := by
    by_cases h1 : n0 ≤ 64
    · by_cases h2 : n1 = n0
      · subst h2
        by_cases h3 : n2 = n1
        · subst h3
          by_cases h4 : relErr n2 l0 = 0
          · by_cases h5 : relErr n2 l1 = 0
            · by_cases h6 : relErr n2 l2 = 0
              · exact walk_small l0 l1 l2 A0 A1 A2 n2 c0 c1 c2 W hR0 hR1 hR2 hw0 hw1 hw2 h1 h4 h5 h6 hE
              · exact walk_big6 l0 l1 l2 A0 A1 A2 n2 c0 c1 c2 W hR0 hR1 hR2 hw0 hw1 hw2 h1 h4 h5 h6 hE
            · exact walk_big5 l0 l1 l2 A0 A1 A2 n2 c0 c1 c2 W hR0 hR1 hR2 hw0 hw1 hw2 h1 h4 h5 hE
          · exact walk_big4 l0 l1 l2 A0 A1 A2 n2 c0 c1 c2 W hR0 hR1 hR2 hw0 hw1 hw2 h1 h4 hE
        · exact walk_big3 A0 A1 A2 n1 n2 c0 c1 c2 W h1 h3 hE
      · exact walk_big2 A0 A1 A2 n0 n1 n2 c0 c1 c2 W h1 h2 hE
    · exact walk_big1 A0 A1 A2 n0 n1 n2 c0 c1 c2 W (by omega) hE
  refine hwalk.mono fun e W' ⟨he, hg⟩ => ?_
  subst he
  exact ⟨_, rfl, _, _, _, [], _, [], hW', trodAll_mk1 (shut_bool Tryd.underlying4 _), (trodAll_cons_mk (Below.trod laidOut (by kernel_rfl) (of_decide_eq_true (by kernel_rfl)) k0 hg lt0) (trodAll_cons_mk (Below.trod laidOut (by kernel_rfl) (of_decide_eq_true (by kernel_rfl)) k1 hg lt1) (trodAll_cons_mk (Below.trod laidOut (by kernel_rfl) (of_decide_eq_true (by kernel_rfl)) k2 hg lt2) trodAll_mk0))), rfl, hg.frame _, fun h => by cases h⟩
theorem reads (os : Os) {H : Type} (enc : TypeId × Value → H) : ∃ places, DataW.whole enc Tryd.prog ((laidW os).forCall (fun _ _ => 0) ⟨#[], #[.slice none 0 0, .slice none 0 0, .slice none 0 0], []⟩).memory Tryd.f11.params.toList Rows.relationOrdersSpec.vars false #[Value.slice none 0 0, Value.slice none 0 0, Value.slice none 0 0].toList 8 = some ([.nil, .nil, .nil], [], places) :=
  ⟨[], by kernel_rfl⟩
set_option maxRecDepth 100000 in
theorem lifted (os : Os) (started : os.Started) (H : Type) (enc : TypeId × Value → H) (F : Stop.Interp) :
    ReturnsInHanded {} Tryd.checked os 11 .any ((OpenSpec.ofChange Rows.relationOrdersSpec).preRow enc Tryd.prog Tryd.f11 Rows.relationOrdersRow.domain false Rows.relationOrdersRow.laid) (((OpenSpec.ofChange Rows.relationOrdersSpec).at F).post enc Tryd.prog Tryd.f11 false true false false) := by
  obtain ⟨places, hx⟩ := reads os enc
  refine returnsInHanded_of_row (C := Tryd.checked) (s := OpenSpec.ofChange Rows.relationOrdersSpec) own started (by kernel_rfl) Tryd.func11
    (witness_row_at (enc := enc) (C := Tryd.checked) false (laidW os) #[.slice none 0 0, .slice none 0 0, .slice none 0 0] (laidW_os os) (vars_ok os _) (heap_ok os _) (by kernel_rfl)
      (OpenSpec.preRow_of_cond 8 hx (by kernel_rfl) (fun k hk => by cases hk) (by kernel_rfl) (laid_met os _))) ?_
  intro W base args ds gs before hval hW _ _ _ hL hsh _
  exact contract H enc W base args ds gs before hval hW (env_of hL)
theorem said : Rows.RelationOrdersSaid :=
  OpenClaim.holds_of_cond 11 Tryd.f11 rfl rfl rfl rfl rfl rfl rfl ⟨rfl, rfl, rfl, rfl, rfl⟩ rfl rfl rfl rfl rfl (by kernel_rfl) Tryd.func11 (by kernel_rfl)
    (of_decide_eq_true (by kernel_rfl)) (by unfold Func.isWrapper; first | (rw [if_pos (by decide +kernel)]; kernel_rfl) | (rw [if_neg (by decide +kernel)]; exact ⟨rfl, rfl⟩))
    (fun os started H enc _ F => by rw [OpenClaim.pre_eq_preRow]; exact lifted os started H enc F)
theorem plain (f : FuncId) (fn : Func) (hf : Tryd.pinned.checked.prog.funcNamed "witting/wittinglaw02.RelationOrders" = some f) (hfn : Tryd.pinned.checked.prog.funcs[f]? = some fn) :
    false = Tryd.pinned.checked.prog.looks [] ∧ ∀ (j : Nat) t, fn.params[j]? = some t → Tryd.pinned.checked.prog.wantsStandIn t = false := by
  obtain rfl : f = 11 := Option.some.inj ((show Tryd.prog.funcNamed "witting/wittinglaw02.RelationOrders" = some 11 by kernel_rfl).symm.trans hf) |>.symm
  obtain rfl : fn = Tryd.f11 := (Option.some.inj (Tryd.func11.symm.trans hfn)).symm
  refine ⟨no_looks, fun j t ht => ?_⟩
  rw [Tryd.params11] at ht
  have hm : t ∈ [22, 22, 22] := by simpa using Array.mem_of_getElem? ht
  have hall : ([22, 22, 22].all fun u => !Tryd.prog.wantsStandIn u) = true := by kernel_rfl
  exact (show Tryd.prog.wantsStandIn t = false by simpa using List.all_eq_true.1 hall t hm)
theorem card : Rows.RelationOrdersCardSaid :=
  Claim7.holds_tied_plain_at .later [] _ _ _ _ said (fun _ h => by cases h) (by kernel_rfl) (fun _ h => by cases h) relationOrders_row_tie rfl ⟨rfl, rfl⟩ (by kernel_rfl) rfl plain (by kernel_rfl)
#print axioms card
end Go.Proofs.YtogjbghieoifjaaDoor.relationOrders
