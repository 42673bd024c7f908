/- PartitionLattice (P3.2): Meet and Join commute, are associative and idempotent, and absorb each other, for all lists of keys. No condition. -/
import Derived.Test.YtcemkjmmmjabkaaWp
namespace Go.Proofs.Ytcemkjmmmjabkaa.partitionLattice
open Go.ChangeShapes Go.WideShapes Go.ChangeAt Go.RowKit Go.Proofs.Ytcemkjmmmjabkaa Go.Proofs.Ws
theorem min4_run {P : Program} (ts : Array TypeId) (t : TypeId) (x y u z m : Int) (w : World) (h : min (min (min x y) u) z = m) :
    (Builtin.min_ ts t #[.int .i64 x, .int .i64 y, .int .i64 u, .int .i64 z]).run P w = .ok (.int .i64 m) w := by
  have e : (Builtin.min_ ts t #[.int .i64 x, .int .i64 y, .int .i64 u, .int .i64 z]).run P w = .ok (.int .i64 (if z < (if u < (if y < x then y else x) then u else (if y < x then y else x)) then z else (if u < (if y < x then y else x) then u else (if y < x then y else x)))) w := by
    simp [Builtin.min_, Builtin.min2]
  rw [e]
  congr 2
  rw [← h]
  simp only [Int.min_def]
  omega
theorem equal_yes {l m : List Int} (h : l = m) (A A2 : Option Addr) (n c c2 : Nat) (w : World) (hR : Reads w w.heap.size 1 A n (ints l)) (hR2 : Reads w w.heap.size 1 A2 n (ints m)) (hm : n ≤ 64) :
    Calls Try.prog 11 #[.slice A n c, .slice A2 n c2] w fun e w' => e = .returned (.bool true) ∧ Below w.heap.size w w' := by
  subst h
  have k := equalI_any l l A A2 n n c c2 w.heap.size w hR hR2 (by unfold maxLen; omega) (by unfold maxLen; omega)
  rw [show decide (l = l) = true by simp] at k
  exact toB_drew k
def Gives1 (L : List Int) (n : Nat) (w : World) (e : Ending) (w' : World) : Prop :=
  ∃ A c, e = .returned (.slice A n c) ∧ Reads w' w'.heap.size 1 A n (ints L) ∧ Below w.heap.size w w'
set_option maxRecDepth 100000 in
theorem meetC (a b : List Int) (A A2 : Option Addr) (n c c2 : Nat) (w : World) (hR : Reads w w.heap.size 1 A n (ints a)) (hR2 : Reads w w.heap.size 1 A2 n (ints b)) (hm : n ≤ 64) (ha : Can n a) (hb : Can n b) :
    Calls Try.prog 7 #[.slice A n c, .slice A2 n c2] w (Gives1 (canonL a b) n w) := by
  have H1 := Lib.hid (meet_any a b A A2 n c c2 w hR hR2 hm (can_wf ha hm) (can_wf hb hm) ha.ok hb.ok)
  clear hR hR2 ha hb
  go_enter Try.func7, Try.ntmps7
  go_wp2_with fail
  refine (H1.out).mono ?_
  rintro e w1 ⟨A4, k4, rfl, hr4, hb⟩
  clear H1
  go_wp2
  go_ret
  exact ⟨A4, k4, rfl, hr4, hb⟩
set_option maxRecDepth 100000 in
theorem joinC (a b : List Int) (A A2 : Option Addr) (n c c2 : Nat) (w : World) (hR : Reads w w.heap.size 1 A n (ints a)) (hR2 : Reads w w.heap.size 1 A2 n (ints b)) (hm : n ≤ 64) (ha : Can n a) (hb : Can n b) :
    Calls Try.prog 9 #[.slice A n c, .slice A2 n c2] w fun e w' => ∃ j, Lub n a b j ∧ Gives1 j n w e w' := by
  have H1 := Lib.hid (joinLub_any a b A A2 n c c2 w hR hR2 hm ha hb)
  clear hR hR2 ha hb
  go_enter Try.func9, Try.ntmps9
  go_wp2_with fail
  refine (H1.out).mono ?_
  rintro e w1 ⟨j, hj, A4, k4, rfl, hr4, hb⟩
  clear H1
  go_wp2
  go_ret
  exact ⟨j, hj, A4, k4, rfl, hr4, hb⟩
set_option maxRecDepth 100000 in
set_option maxHeartbeats 6400000 in
theorem walk (x y z : List Int) (A0 A1 A2 : Option Addr) (n0 n1 n2 c0 c1 c2 m : Nat) (w : World) (hR0 : Reads w w.heap.size 1 A0 m (ints x)) (wf0 : WFs x) (_hm0 : m ≤ n0) (hc0 : m ≤ c0) (_hx0 : n0 ≤ maxLen) (hR1 : Reads w w.heap.size 1 A1 m (ints y)) (wf1 : WFs y) (_hm1 : m ≤ n1) (hc1 : m ≤ c1) (_hx1 : n1 ≤ maxLen) (hR2 : Reads w w.heap.size 1 A2 m (ints z)) (wf2 : WFs z) (_hm2 : m ≤ n2) (hc2 : m ≤ c2) (_hx2 : n2 ≤ maxLen) (h24 : m ≤ 24) (hmin : min (min (min (n0 : Int) (n1 : Int)) (n2 : Int)) 24 = (m : Int)) :
    Calls Try.prog 3 #[.slice A0 n0 c0, .slice A1 n1 c1, .slice A2 n2 c2] w fun e w' => e = .returned (.bool true) ∧ Below w.heap.size w w' := by
  have HB : Hid (Below w.heap.size w w) := Lib.hid (Below.refl _ w)
  have HX := Lib.hid hR0
  have HY := Lib.hid hR1
  have HZ := Lib.hid hR2
  have hla := hR0.int_len
  have hlb := hR1.int_len
  have hlc := hR2.int_len
  have HWX := Lib.hid wf0
  have HWY := Lib.hid wf1
  have HWZ := Lib.hid wf2
  have HCA : Hid (Can m (keyP x)) := Lib.hid (by rw [← hla]; exact keyP_can x (by omega))
  have HCB : Hid (Can m (keyP y)) := Lib.hid (by rw [← hlb]; exact keyP_can y (by omega))
  have HCC : Hid (Can m (keyP z)) := Lib.hid (by rw [← hlc]; exact keyP_can z (by omega))
  unfold maxLen at _hx0 _hx1 _hx2
  clear hR0 hR1 hR2 wf0 wf1 wf2 hla hlb hlc
  have hmin4 : ∀ (ts : Array TypeId) (t : TypeId) (W : World), (Builtin.min_ ts t #[.int .i64 (n0 : Int), .int .i64 (n1 : Int), .int .i64 (n2 : Int), .int .i64 24]).run Try.prog W = .ok (.int .i64 (m : Int)) W := fun ts t W => min4_run ts t _ _ _ _ _ W hmin
  go_enter Try.func3, Try.ntmps3
  have HQ := Lib.hid (lawOf_any x A0 m c0 w HX.out (by omega) HWX.out)
  go_wp2_with fail
  refine (HQ.out).mono ?_
  rintro e w1 ⟨A3, k3, rfl, hr3, hb⟩
  clear HQ
  replace HX := Lib.hid (HX.out.step hb)
  replace HY := Lib.hid (HY.out.step hb)
  replace HZ := Lib.hid (HZ.out.step hb)
  replace HB := Lib.hid (HB.out.trans (hb.mono HB.out.size))
  have Ha := Lib.hid hr3
  clear hr3
  clear hb
  have HQ := Lib.hid (lawOf_any y A1 m c1 w1 HY.out (by omega) HWY.out)
  go_wp2_with fail
  refine (HQ.out).mono ?_
  rintro e w2 ⟨A4, k4, rfl, hr4, hb⟩
  clear HQ
  replace HX := Lib.hid (HX.out.step hb)
  replace HY := Lib.hid (HY.out.step hb)
  replace HZ := Lib.hid (HZ.out.step hb)
  replace Ha := Lib.hid (Ha.out.step hb)
  replace HB := Lib.hid (HB.out.trans (hb.mono HB.out.size))
  have Hb := Lib.hid hr4
  clear hr4
  clear hb
  have HQ := Lib.hid (lawOf_any z A2 m c2 w2 HZ.out (by omega) HWZ.out)
  go_wp2_with fail
  refine (HQ.out).mono ?_
  rintro e w3 ⟨A5, k5, rfl, hr5, hb⟩
  clear HQ
  replace HX := Lib.hid (HX.out.step hb)
  replace HY := Lib.hid (HY.out.step hb)
  replace HZ := Lib.hid (HZ.out.step hb)
  replace Ha := Lib.hid (Ha.out.step hb)
  replace Hb := Lib.hid (Hb.out.step hb)
  replace HB := Lib.hid (HB.out.trans (hb.mono HB.out.size))
  have Hc := Lib.hid hr5
  clear hr5
  clear hb
  clear HX HY HZ
  generalize keyP x = a at *
  generalize keyP y = b at *
  generalize keyP z = c at *
  have HQ := Lib.hid (meetC _ _ A3 A4 m k3 k4 w3 Ha.out Hb.out (by omega) (HCA.out) (HCB.out))
  go_wp2_with fail
  refine (HQ.out).mono ?_
  rintro e w4 ⟨A6, k6, rfl, hr6, hb⟩
  clear HQ
  replace Ha := Lib.hid (Ha.out.step hb)
  replace Hb := Lib.hid (Hb.out.step hb)
  replace Hc := Lib.hid (Hc.out.step hb)
  replace HB := Lib.hid (HB.out.trans (hb.mono HB.out.size))
  have R6 := Lib.hid hr6
  clear hr6
  clear hb
  have HQ := Lib.hid (meetC _ _ A4 A3 m k4 k3 w4 Hb.out Ha.out (by omega) (HCB.out) (HCA.out))
  go_wp2_with fail
  refine (HQ.out).mono ?_
  rintro e w5 ⟨A7, k7, rfl, hr7, hb⟩
  clear HQ
  replace Ha := Lib.hid (Ha.out.step hb)
  replace Hb := Lib.hid (Hb.out.step hb)
  replace Hc := Lib.hid (Hc.out.step hb)
  replace R6 := Lib.hid (R6.out.step hb)
  replace HB := Lib.hid (HB.out.trans (hb.mono HB.out.size))
  have R7 := Lib.hid hr7
  clear hr7
  clear hb
  have HQ := Lib.hid (equal_yes (meet_comm HCA.out HCB.out (by omega)) A6 A7 m k6 k7 w5 R6.out R7.out (by omega))
  go_wp2_with fail
  refine (HQ.out).mono ?_
  rintro e w6 ⟨rfl, hb⟩
  clear HQ
  replace Ha := Lib.hid (Ha.out.step hb)
  replace Hb := Lib.hid (Hb.out.step hb)
  replace Hc := Lib.hid (Hc.out.step hb)
  replace R6 := Lib.hid (R6.out.step hb)
  replace R7 := Lib.hid (R7.out.step hb)
  replace HB := Lib.hid (HB.out.trans (hb.mono HB.out.size))
  clear hb
  clear R6
  clear R7
  have HQ := Lib.hid (joinC _ _ A3 A4 m k3 k4 w6 Ha.out Hb.out (by omega) (HCA.out) (HCB.out))
  go_wp2_with fail
  refine (HQ.out).mono ?_
  rintro e w7 ⟨j8, hj8, A8, k8, rfl, hr8, hb⟩
  clear HQ
  replace Ha := Lib.hid (Ha.out.step hb)
  replace Hb := Lib.hid (Hb.out.step hb)
  replace Hc := Lib.hid (Hc.out.step hb)
  replace HB := Lib.hid (HB.out.trans (hb.mono HB.out.size))
  have R8 := Lib.hid hr8
  clear hr8
  have J8 := Lib.hid hj8
  clear hj8
  clear hb
  have HQ := Lib.hid (joinC _ _ A4 A3 m k4 k3 w7 Hb.out Ha.out (by omega) (HCB.out) (HCA.out))
  go_wp2_with fail
  refine (HQ.out).mono ?_
  rintro e w8 ⟨j9, hj9, A9, k9, rfl, hr9, hb⟩
  clear HQ
  replace Ha := Lib.hid (Ha.out.step hb)
  replace Hb := Lib.hid (Hb.out.step hb)
  replace Hc := Lib.hid (Hc.out.step hb)
  replace R8 := Lib.hid (R8.out.step hb)
  replace HB := Lib.hid (HB.out.trans (hb.mono HB.out.size))
  have R9 := Lib.hid hr9
  clear hr9
  have J9 := Lib.hid hj9
  clear hj9
  clear hb
  have HQ := Lib.hid (equal_yes (Lub.unique J8.out J9.out.symm) A8 A9 m k8 k9 w8 R8.out R9.out (by omega))
  go_wp2_with fail
  refine (HQ.out).mono ?_
  rintro e w9 ⟨rfl, hb⟩
  clear HQ
  replace Ha := Lib.hid (Ha.out.step hb)
  replace Hb := Lib.hid (Hb.out.step hb)
  replace Hc := Lib.hid (Hc.out.step hb)
  replace R8 := Lib.hid (R8.out.step hb)
  replace R9 := Lib.hid (R9.out.step hb)
  replace HB := Lib.hid (HB.out.trans (hb.mono HB.out.size))
  clear hb
  clear R8
  clear R9
  have HQ := Lib.hid (meetC _ _ A3 A3 m k3 k3 w9 Ha.out Ha.out (by omega) (HCA.out) (HCA.out))
  go_wp2_with fail
  refine (HQ.out).mono ?_
  rintro e w10 ⟨A10, k10, rfl, hr10, hb⟩
  clear HQ
  replace Ha := Lib.hid (Ha.out.step hb)
  replace Hb := Lib.hid (Hb.out.step hb)
  replace Hc := Lib.hid (Hc.out.step hb)
  replace HB := Lib.hid (HB.out.trans (hb.mono HB.out.size))
  have R10 := Lib.hid hr10
  clear hr10
  clear hb
  have HQ := Lib.hid (equal_yes (meet_self HCA.out (by omega)) A10 A3 m k10 k3 w10 R10.out Ha.out (by omega))
  go_wp2_with fail
  refine (HQ.out).mono ?_
  rintro e w11 ⟨rfl, hb⟩
  clear HQ
  replace Ha := Lib.hid (Ha.out.step hb)
  replace Hb := Lib.hid (Hb.out.step hb)
  replace Hc := Lib.hid (Hc.out.step hb)
  replace R10 := Lib.hid (R10.out.step hb)
  replace HB := Lib.hid (HB.out.trans (hb.mono HB.out.size))
  clear hb
  clear R10
  have HQ := Lib.hid (joinC _ _ A3 A3 m k3 k3 w11 Ha.out Ha.out (by omega) (HCA.out) (HCA.out))
  go_wp2_with fail
  refine (HQ.out).mono ?_
  rintro e w12 ⟨j11, hj11, A11, k11, rfl, hr11, hb⟩
  clear HQ
  replace Ha := Lib.hid (Ha.out.step hb)
  replace Hb := Lib.hid (Hb.out.step hb)
  replace Hc := Lib.hid (Hc.out.step hb)
  replace HB := Lib.hid (HB.out.trans (hb.mono HB.out.size))
  have R11 := Lib.hid hr11
  clear hr11
  have J11 := Lib.hid hj11
  clear hj11
  clear hb
  have HQ := Lib.hid (equal_yes (Lub.unique J11.out (Lub.self HCA.out)) A11 A3 m k11 k3 w12 R11.out Ha.out (by omega))
  go_wp2_with fail
  refine (HQ.out).mono ?_
  rintro e w13 ⟨rfl, hb⟩
  clear HQ
  replace Ha := Lib.hid (Ha.out.step hb)
  replace Hb := Lib.hid (Hb.out.step hb)
  replace Hc := Lib.hid (Hc.out.step hb)
  replace R11 := Lib.hid (R11.out.step hb)
  replace HB := Lib.hid (HB.out.trans (hb.mono HB.out.size))
  clear hb
  clear R11
  have HQ := Lib.hid (meetC _ _ A4 A5 m k4 k5 w13 Hb.out Hc.out (by omega) (HCB.out) (HCC.out))
  go_wp2_with fail
  refine (HQ.out).mono ?_
  rintro e w14 ⟨A12, k12, rfl, hr12, hb⟩
  clear HQ
  replace Ha := Lib.hid (Ha.out.step hb)
  replace Hb := Lib.hid (Hb.out.step hb)
  replace Hc := Lib.hid (Hc.out.step hb)
  replace HB := Lib.hid (HB.out.trans (hb.mono HB.out.size))
  have R12 := Lib.hid hr12
  clear hr12
  clear hb
  have HQ := Lib.hid (meetC _ _ A3 A12 m k3 k12 w14 Ha.out R12.out (by omega) (HCA.out) (meet_can (HCB.out) (by omega)))
  go_wp2_with fail
  refine (HQ.out).mono ?_
  rintro e w15 ⟨A13, k13, rfl, hr13, hb⟩
  clear HQ
  replace Ha := Lib.hid (Ha.out.step hb)
  replace Hb := Lib.hid (Hb.out.step hb)
  replace Hc := Lib.hid (Hc.out.step hb)
  replace R12 := Lib.hid (R12.out.step hb)
  replace HB := Lib.hid (HB.out.trans (hb.mono HB.out.size))
  have R13 := Lib.hid hr13
  clear hr13
  clear hb
  have HQ := Lib.hid (meetC _ _ A3 A4 m k3 k4 w15 Ha.out Hb.out (by omega) (HCA.out) (HCB.out))
  go_wp2_with fail
  refine (HQ.out).mono ?_
  rintro e w16 ⟨A14, k14, rfl, hr14, hb⟩
  clear HQ
  replace Ha := Lib.hid (Ha.out.step hb)
  replace Hb := Lib.hid (Hb.out.step hb)
  replace Hc := Lib.hid (Hc.out.step hb)
  replace R12 := Lib.hid (R12.out.step hb)
  replace R13 := Lib.hid (R13.out.step hb)
  replace HB := Lib.hid (HB.out.trans (hb.mono HB.out.size))
  have R14 := Lib.hid hr14
  clear hr14
  clear hb
  have HQ := Lib.hid (meetC _ _ A14 A5 m k14 k5 w16 R14.out Hc.out (by omega) (meet_can (HCA.out) (by omega)) (HCC.out))
  go_wp2_with fail
  refine (HQ.out).mono ?_
  rintro e w17 ⟨A15, k15, rfl, hr15, hb⟩
  clear HQ
  replace Ha := Lib.hid (Ha.out.step hb)
  replace Hb := Lib.hid (Hb.out.step hb)
  replace Hc := Lib.hid (Hc.out.step hb)
  replace R12 := Lib.hid (R12.out.step hb)
  replace R13 := Lib.hid (R13.out.step hb)
  replace R14 := Lib.hid (R14.out.step hb)
  replace HB := Lib.hid (HB.out.trans (hb.mono HB.out.size))
  have R15 := Lib.hid hr15
  clear hr15
  clear hb
  have HQ := Lib.hid (equal_yes (meet_assoc HCA.out HCB.out HCC.out (by omega)) A13 A15 m k13 k15 w17 R13.out R15.out (by omega))
  go_wp2_with fail
  refine (HQ.out).mono ?_
  rintro e w18 ⟨rfl, hb⟩
  clear HQ
  replace Ha := Lib.hid (Ha.out.step hb)
  replace Hb := Lib.hid (Hb.out.step hb)
  replace Hc := Lib.hid (Hc.out.step hb)
  replace R12 := Lib.hid (R12.out.step hb)
  replace R13 := Lib.hid (R13.out.step hb)
  replace R14 := Lib.hid (R14.out.step hb)
  replace R15 := Lib.hid (R15.out.step hb)
  replace HB := Lib.hid (HB.out.trans (hb.mono HB.out.size))
  clear hb
  clear R12
  clear R13
  clear R14
  clear R15
  have HQ := Lib.hid (joinC _ _ A4 A5 m k4 k5 w18 Hb.out Hc.out (by omega) (HCB.out) (HCC.out))
  go_wp2_with fail
  refine (HQ.out).mono ?_
  rintro e w19 ⟨j16, hj16, A16, k16, rfl, hr16, hb⟩
  clear HQ
  replace Ha := Lib.hid (Ha.out.step hb)
  replace Hb := Lib.hid (Hb.out.step hb)
  replace Hc := Lib.hid (Hc.out.step hb)
  replace HB := Lib.hid (HB.out.trans (hb.mono HB.out.size))
  have R16 := Lib.hid hr16
  clear hr16
  have J16 := Lib.hid hj16
  clear hj16
  clear hb
  have HQ := Lib.hid (joinC _ _ A3 A16 m k3 k16 w19 Ha.out R16.out (by omega) (HCA.out) (J16.out.can))
  go_wp2_with fail
  refine (HQ.out).mono ?_
  rintro e w20 ⟨j17, hj17, A17, k17, rfl, hr17, hb⟩
  clear HQ
  replace Ha := Lib.hid (Ha.out.step hb)
  replace Hb := Lib.hid (Hb.out.step hb)
  replace Hc := Lib.hid (Hc.out.step hb)
  replace R16 := Lib.hid (R16.out.step hb)
  replace HB := Lib.hid (HB.out.trans (hb.mono HB.out.size))
  have R17 := Lib.hid hr17
  clear hr17
  have J17 := Lib.hid hj17
  clear hj17
  clear hb
  have HQ := Lib.hid (joinC _ _ A3 A4 m k3 k4 w20 Ha.out Hb.out (by omega) (HCA.out) (HCB.out))
  go_wp2_with fail
  refine (HQ.out).mono ?_
  rintro e w21 ⟨j18, hj18, A18, k18, rfl, hr18, hb⟩
  clear HQ
  replace Ha := Lib.hid (Ha.out.step hb)
  replace Hb := Lib.hid (Hb.out.step hb)
  replace Hc := Lib.hid (Hc.out.step hb)
  replace R16 := Lib.hid (R16.out.step hb)
  replace R17 := Lib.hid (R17.out.step hb)
  replace HB := Lib.hid (HB.out.trans (hb.mono HB.out.size))
  have R18 := Lib.hid hr18
  clear hr18
  have J18 := Lib.hid hj18
  clear hj18
  clear hb
  have HQ := Lib.hid (joinC _ _ A18 A5 m k18 k5 w21 R18.out Hc.out (by omega) (J18.out.can) (HCC.out))
  go_wp2_with fail
  refine (HQ.out).mono ?_
  rintro e w22 ⟨j19, hj19, A19, k19, rfl, hr19, hb⟩
  clear HQ
  replace Ha := Lib.hid (Ha.out.step hb)
  replace Hb := Lib.hid (Hb.out.step hb)
  replace Hc := Lib.hid (Hc.out.step hb)
  replace R16 := Lib.hid (R16.out.step hb)
  replace R17 := Lib.hid (R17.out.step hb)
  replace R18 := Lib.hid (R18.out.step hb)
  replace HB := Lib.hid (HB.out.trans (hb.mono HB.out.size))
  have R19 := Lib.hid hr19
  clear hr19
  have J19 := Lib.hid hj19
  clear hj19
  clear hb
  have HQ := Lib.hid (equal_yes (Lub.assoc J16.out J17.out J18.out J19.out) A17 A19 m k17 k19 w22 R17.out R19.out (by omega))
  go_wp2_with fail
  refine (HQ.out).mono ?_
  rintro e w23 ⟨rfl, hb⟩
  clear HQ
  replace Ha := Lib.hid (Ha.out.step hb)
  replace Hb := Lib.hid (Hb.out.step hb)
  replace Hc := Lib.hid (Hc.out.step hb)
  replace R16 := Lib.hid (R16.out.step hb)
  replace R17 := Lib.hid (R17.out.step hb)
  replace R18 := Lib.hid (R18.out.step hb)
  replace R19 := Lib.hid (R19.out.step hb)
  replace HB := Lib.hid (HB.out.trans (hb.mono HB.out.size))
  clear hb
  clear R16
  clear R17
  clear R18
  clear R19
  have HQ := Lib.hid (joinC _ _ A3 A4 m k3 k4 w23 Ha.out Hb.out (by omega) (HCA.out) (HCB.out))
  go_wp2_with fail
  refine (HQ.out).mono ?_
  rintro e w24 ⟨j20, hj20, A20, k20, rfl, hr20, hb⟩
  clear HQ
  replace Ha := Lib.hid (Ha.out.step hb)
  replace Hb := Lib.hid (Hb.out.step hb)
  replace Hc := Lib.hid (Hc.out.step hb)
  replace HB := Lib.hid (HB.out.trans (hb.mono HB.out.size))
  have R20 := Lib.hid hr20
  clear hr20
  have J20 := Lib.hid hj20
  clear hj20
  clear hb
  have HQ := Lib.hid (meetC _ _ A3 A20 m k3 k20 w24 Ha.out R20.out (by omega) (HCA.out) (J20.out.can))
  go_wp2_with fail
  refine (HQ.out).mono ?_
  rintro e w25 ⟨A21, k21, rfl, hr21, hb⟩
  clear HQ
  replace Ha := Lib.hid (Ha.out.step hb)
  replace Hb := Lib.hid (Hb.out.step hb)
  replace Hc := Lib.hid (Hc.out.step hb)
  replace R20 := Lib.hid (R20.out.step hb)
  replace HB := Lib.hid (HB.out.trans (hb.mono HB.out.size))
  have R21 := Lib.hid hr21
  clear hr21
  clear hb
  have HQ := Lib.hid (equal_yes (absorb_meet HCA.out J20.out (by omega)) A21 A3 m k21 k3 w25 R21.out Ha.out (by omega))
  go_wp2_with fail
  refine (HQ.out).mono ?_
  rintro e w26 ⟨rfl, hb⟩
  clear HQ
  replace Ha := Lib.hid (Ha.out.step hb)
  replace Hb := Lib.hid (Hb.out.step hb)
  replace Hc := Lib.hid (Hc.out.step hb)
  replace R20 := Lib.hid (R20.out.step hb)
  replace R21 := Lib.hid (R21.out.step hb)
  replace HB := Lib.hid (HB.out.trans (hb.mono HB.out.size))
  clear hb
  clear R20
  clear R21
  have HQ := Lib.hid (meetC _ _ A3 A4 m k3 k4 w26 Ha.out Hb.out (by omega) (HCA.out) (HCB.out))
  go_wp2_with fail
  refine (HQ.out).mono ?_
  rintro e w27 ⟨A22, k22, rfl, hr22, hb⟩
  clear HQ
  replace Ha := Lib.hid (Ha.out.step hb)
  replace Hb := Lib.hid (Hb.out.step hb)
  replace Hc := Lib.hid (Hc.out.step hb)
  replace HB := Lib.hid (HB.out.trans (hb.mono HB.out.size))
  have R22 := Lib.hid hr22
  clear hr22
  clear hb
  have HQ := Lib.hid (joinC _ _ A3 A22 m k3 k22 w27 Ha.out R22.out (by omega) (HCA.out) (meet_can (HCA.out) (by omega)))
  go_wp2_with fail
  refine (HQ.out).mono ?_
  rintro e w28 ⟨j23, hj23, A23, k23, rfl, hr23, hb⟩
  clear HQ
  replace Ha := Lib.hid (Ha.out.step hb)
  replace Hb := Lib.hid (Hb.out.step hb)
  replace Hc := Lib.hid (Hc.out.step hb)
  replace R22 := Lib.hid (R22.out.step hb)
  replace HB := Lib.hid (HB.out.trans (hb.mono HB.out.size))
  have R23 := Lib.hid hr23
  clear hr23
  have J23 := Lib.hid hj23
  clear hj23
  clear hb
  have HQ := Lib.hid (equal_yes (absorb_join HCA.out J23.out) A23 A3 m k23 k3 w28 R23.out Ha.out (by omega))
  go_wp2_with fail
  refine (HQ.out).mono ?_
  rintro e w29 ⟨rfl, hb⟩
  clear HQ
  replace Ha := Lib.hid (Ha.out.step hb)
  replace Hb := Lib.hid (Hb.out.step hb)
  replace Hc := Lib.hid (Hc.out.step hb)
  replace R22 := Lib.hid (R22.out.step hb)
  replace R23 := Lib.hid (R23.out.step hb)
  replace HB := Lib.hid (HB.out.trans (hb.mono HB.out.size))
  clear hb
  clear R22
  clear R23
  have HQ := Lib.hid (awake_any w29)
  go_wp2_with fail
  refine (HQ.out).mono ?_
  rintro e w30 ⟨rfl, hb⟩
  clear HQ
  replace Ha := Lib.hid (Ha.out.step hb)
  replace Hb := Lib.hid (Hb.out.step hb)
  replace Hc := Lib.hid (Hc.out.step hb)
  replace HB := Lib.hid (HB.out.trans (hb.mono HB.out.size))
  clear hb
  go_wp2
  go_ret
  exact ⟨rfl, HB.out⟩
set_option maxRecDepth 100000 in
theorem contract (H : Type) (enc : TypeId × Value → H) (W : World) (base : Nat) (args : Array Value) (ds gs : List (DataW H)) (before : List MemPlace)
    (hval : ∀ (j : Nat) t v, Try.f3.params[j]? = some t → args[j]? = some v → Value.okWide Try.prog W .any base t v)
    (hW : DataW.Whole enc Try.prog Try.f3.params.toList Rows.partitionLatticeSpec.vars false W args.toList ds gs before) :
    Calls Try.prog 3 args W fun e W' => ∃ v, e = .returned v ∧ Rows.partitionLatticeSpec.post enc Try.prog Try.f3 false true false false W args v W' := by
  have hW' := hW
  obtain ⟨p, q, hA0, hV, rfl, hfz, hnd⟩ := hW
  have hA : DataW.TrodAll enc Try.prog W 0 (fun _ => true) true Try.f3.params.toList args.toList ds p := hA0
  rw [Try.params3] at hA hval
  obtain ⟨v0, vs0, d0, ds0, p0, q0, hargs, rfl, rfl, h0, r0⟩ := trodAll_cons hA
  obtain ⟨v1, vs1, d1, ds1, p1, q1, rfl, rfl, rfl, h1, r1⟩ := trodAll_cons r0
  obtain ⟨v2, vs2, d2, ds2, p2, q2, rfl, rfl, rfl, h2, r2⟩ := trodAll_cons r1
  obtain ⟨rfl, rfl, rfl⟩ := trodAll_nil r2
  obtain rfl : args = #[v0, v1, v2] := by cases args; simp_all
  obtain ⟨rfl, rfl⟩ := trodVars_none hV
  obtain ⟨A0, n0, c0, rfl⟩ := okWide_slice Try.underlying22 (hval 0 22 v0 rfl rfl)
  have k0 := h0
  have lt0 : ∀ x ∈ p0, x.block < W.heap.size := by obtain ⟨m, hm⟩ := k0; exact DataW.trod_lt m _ _ _ hm
  obtain ⟨z0, w0⟩ : ∃ zs, IsRow .i64 W A0 n0 c0 zs := by
    obtain ⟨fuel, hf⟩ := h0
    rcases open_ints Try.underlying22 Try.underlying3 (by kernel_rfl) hf with ⟨hcs, _⟩ | ⟨x, l, c, zs, hcs, _, hl, hm, hz, _, hcell, hwz⟩
    · simp [Value.cells] at hcs
      obtain ⟨rfl, rfl, rfl⟩ := hcs
      exact ⟨[], .inl ⟨rfl, rfl, rfl, rfl⟩⟩
    · simp [Value.cells] at hcs
      obtain ⟨rfl, rfl, rfl⟩ := hcs
      exact ⟨zs, .inr ⟨_, rfl, hl, hm, by simpa using hz, hcell, hwz⟩⟩
  obtain ⟨A1, n1, c1, rfl⟩ := okWide_slice Try.underlying22 (hval 1 22 v1 rfl rfl)
  have k1 := h1
  have lt1 : ∀ x ∈ p1, x.block < W.heap.size := by obtain ⟨m, hm⟩ := k1; exact DataW.trod_lt m _ _ _ hm
  obtain ⟨z1, w1⟩ : ∃ zs, IsRow .i64 W A1 n1 c1 zs := by
    obtain ⟨fuel, hf⟩ := h1
    rcases open_ints Try.underlying22 Try.underlying3 (by kernel_rfl) hf with ⟨hcs, _⟩ | ⟨x, l, c, zs, hcs, _, hl, hm, hz, _, hcell, hwz⟩
    · simp [Value.cells] at hcs
      obtain ⟨rfl, rfl, rfl⟩ := hcs
      exact ⟨[], .inl ⟨rfl, rfl, rfl, rfl⟩⟩
    · simp [Value.cells] at hcs
      obtain ⟨rfl, rfl, rfl⟩ := hcs
      exact ⟨zs, .inr ⟨_, rfl, hl, hm, by simpa using hz, hcell, hwz⟩⟩
  obtain ⟨A2, n2, c2, rfl⟩ := okWide_slice Try.underlying22 (hval 2 22 v2 rfl rfl)
  have k2 := h2
  have lt2 : ∀ x ∈ p2, x.block < W.heap.size := by obtain ⟨m, hm⟩ := k2; exact DataW.trod_lt m _ _ _ hm
  obtain ⟨z2, w2⟩ : ∃ zs, IsRow .i64 W A2 n2 c2 zs := by
    obtain ⟨fuel, hf⟩ := h2
    rcases open_ints Try.underlying22 Try.underlying3 (by kernel_rfl) hf with ⟨hcs, _⟩ | ⟨x, l, c, zs, hcs, _, hl, hm, hz, _, hcell, hwz⟩
    · simp [Value.cells] at hcs
      obtain ⟨rfl, rfl, rfl⟩ := hcs
      exact ⟨[], .inl ⟨rfl, rfl, rfl, rfl⟩⟩
    · simp [Value.cells] at hcs
      obtain ⟨rfl, rfl, rfl⟩ := hcs
      exact ⟨zs, .inr ⟨_, rfl, hl, hm, by simpa using hz, hcell, hwz⟩⟩
  clear hA0
  obtain ⟨hR0, hw0, hc0, hm0⟩ := w0.ints
  obtain ⟨hR1, hw1, hc1, hm1⟩ := w1.ints
  obtain ⟨hR2, hw2, hc2, hm2⟩ := w2.ints
  have hwalk : Calls Try.prog 3 #[.slice A0 n0 c0, .slice A1 n1 c1, .slice A2 n2 c2] W fun e w' => e = .returned (.bool true) ∧ Below W.heap.size W w' := by
    obtain ⟨m, hm⟩ : ∃ m : Nat, m = min (min (min n0 n1) n2) 24 := ⟨_, rfl⟩
    exact walk ((z0.take n0).take m) ((z1.take n1).take m) ((z2.take n2).take m) A0 A1 A2 n0 n1 n2 c0 c1 c2 m W (hR0.take (by omega)) (wfs_of (fun x hx => hw0 x (List.mem_of_mem_take hx))) (by omega) (by omega) hm0 (hR1.take (by omega)) (wfs_of (fun x hx => hw1 x (List.mem_of_mem_take hx))) (by omega) (by omega) hm1 (hR2.take (by omega)) (wfs_of (fun x hx => hw2 x (List.mem_of_mem_take hx))) (by omega) (by omega) hm2 (by omega) (by omega)
  refine hwalk.mono fun e W' ⟨he, hg⟩ => ?_
  subst he
  exact ⟨_, rfl, _, _, _, [], _, [], hW', trodAll_mk1 (shut_bool Try.underlying4 _), (trodAll_cons_mk (Below.trod laidOut (by kernel_rfl) (of_decide_eq_true (by kernel_rfl)) k0 hg lt0) (trodAll_cons_mk (Below.trod laidOut (by kernel_rfl) (of_decide_eq_true (by kernel_rfl)) k1 hg lt1) (trodAll_cons_mk (Below.trod laidOut (by kernel_rfl) (of_decide_eq_true (by kernel_rfl)) k2 hg lt2) trodAll_mk0))), rfl, hg.frame _, fun h => by cases h⟩
theorem reads (os : Os) {H : Type} (enc : TypeId × Value → H) : ∃ places, DataW.whole enc Try.prog ((laidW os).forCall (fun _ _ => 0) ⟨#[], #[.slice none 0 0, .slice none 0 0, .slice none 0 0], []⟩).memory Try.f3.params.toList Rows.partitionLatticeSpec.vars false #[Value.slice none 0 0, Value.slice none 0 0, Value.slice none 0 0].toList 8 = some ([.nil, .nil, .nil], [], places) :=
  ⟨[], by kernel_rfl⟩
set_option maxRecDepth 100000 in
theorem lifted (os : Os) (started : os.Started) (H : Type) (enc : TypeId × Value → H) (F : Stop.Interp) :
    ReturnsInHanded {} Try.checked os 3 .any ((OpenSpec.ofChange Rows.partitionLatticeSpec).preRow enc Try.prog Try.f3 Rows.partitionLatticeRow.domain false Rows.partitionLatticeRow.laid) (((OpenSpec.ofChange Rows.partitionLatticeSpec).at F).post enc Try.prog Try.f3 false true false false) := by
  obtain ⟨places, hx⟩ := reads os enc
  refine returnsInHanded_of_row (C := Try.checked) (s := OpenSpec.ofChange Rows.partitionLatticeSpec) own started (by kernel_rfl) Try.func3
    (witness_row_at (enc := enc) (C := Try.checked) false (laidW os) #[.slice none 0 0, .slice none 0 0, .slice none 0 0] (laidW_os os) (vars_ok os _) (heap_ok os _) (by kernel_rfl)
      (OpenSpec.preRow_of_cond 8 hx (by kernel_rfl) (fun k hk => by cases hk) (by kernel_rfl) (laid_met os _))) ?_
  intro W base args ds gs before hval hW _ _ _ _ _ _
  exact contract H enc W base args ds gs before hval hW
theorem said : Rows.PartitionLatticeSaid :=
  OpenClaim.holds_of_cond 3 Try.f3 rfl rfl rfl rfl rfl rfl rfl ⟨rfl, rfl, rfl, rfl, rfl⟩ rfl rfl rfl rfl rfl (by kernel_rfl) Try.func3 (by kernel_rfl)
    (of_decide_eq_true (by kernel_rfl)) (by unfold Func.isWrapper; first | (rw [if_pos (by decide +kernel)]; kernel_rfl) | (rw [if_neg (by decide +kernel)]; exact ⟨rfl, rfl⟩))
    (fun os started H enc _ F => by rw [OpenClaim.pre_eq_preRow]; exact lifted os started H enc F)
#print axioms said
end Go.Proofs.Ytcemkjmmmjabkaa.partitionLattice
