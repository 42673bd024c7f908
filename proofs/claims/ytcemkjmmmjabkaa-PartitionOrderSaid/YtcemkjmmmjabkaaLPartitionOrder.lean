/- PartitionOrder (P3.2): a refines b exactly if their Meet is a, and exactly if their Join is b; the Meet refines both, and both refine the Join, for all lists of keys. No condition. -/
import Derived.Test.YtcemkjmmmjabkaaWp
namespace Go.Proofs.Ytcemkjmmmjabkaa.partitionOrder
open Go.ChangeShapes Go.WideShapes Go.ChangeAt Go.RowKit Go.Proofs.Ytcemkjmmmjabkaa Go.Proofs.Ws
theorem min3_run {P : Program} (ts : Array TypeId) (t : TypeId) (x y z m : Int) (w : World) (h : min (min x y) z = m) :
    (Builtin.min_ ts t #[.int .i64 x, .int .i64 y, .int .i64 z]).run P w = .ok (.int .i64 m) w := by
  have e : (Builtin.min_ ts t #[.int .i64 x, .int .i64 y, .int .i64 z]).run P w = .ok (.int .i64 (if z < (if y < x then y else x) then z else (if y < x then y else x))) w := by
    simp [Builtin.min_, Builtin.min2]
  rw [e]
  congr 2
  rw [← h]
  simp only [Int.min_def]
  omega
theorem refines_true {a b : List Int} {n : Nat} (h : Rf a b) (A A2 : Option Addr) (c c2 : Nat) (w : World) (hR : Reads w w.heap.size 1 A n (ints a)) (hR2 : Reads w w.heap.size 1 A2 n (ints b)) (hm : n ≤ 64) (ha : Can n a) (hb : Can n b) :
    Calls Try.prog 13 #[.slice A n c, .slice A2 n c2] w fun e w' => e = .returned (.bool true) ∧ Below w.heap.size w w' := by
  refine (refines_any a b A A2 n c c2 w hR hR2 hm ha.ok hb.ok).mono ?_
  rintro e w' ⟨⟨bb, rfl, hbb⟩, hw⟩
  have : bb = true := hbb.2 ((refP_iff ha hb).2 h)
  subst this
  exact ⟨rfl, hw⟩
theorem equal_is {l m : List Int} {bb : Bool} (h : bb = true ↔ l = m) (A A2 : Option Addr) (n c c2 : Nat) (w : World) (hR : Reads w w.heap.size 1 A n (ints l)) (hR2 : Reads w w.heap.size 1 A2 n (ints m)) (hm : n ≤ 64) :
    Calls Try.prog 11 #[.slice A n c, .slice A2 n c2] w fun e w' => e = .returned (.bool bb) ∧ Below w.heap.size w w' := by
  have k := equalI_any l m A A2 n n c c2 w.heap.size w hR hR2 (by unfold maxLen; omega) (by unfold maxLen; omega)
  have e : decide (l = m) = bb := by rw [Bool.eq_iff_iff, decide_eq_true_eq]; exact h.symm
  rw [e] at k
  exact toB_drew k
set_option maxRecDepth 100000 in
set_option maxHeartbeats 6400000 in
theorem walk (x y : List Int) (A0 A1 : Option Addr) (n0 n1 c0 c1 m : Nat) (w : World) (hR0 : Reads w w.heap.size 1 A0 m (ints x)) (wf0 : WFs x) (_hm0 : m ≤ n0) (hc0 : m ≤ c0) (_hx0 : n0 ≤ maxLen) (hR1 : Reads w w.heap.size 1 A1 m (ints y)) (wf1 : WFs y) (_hm1 : m ≤ n1) (hc1 : m ≤ c1) (_hx1 : n1 ≤ maxLen) (h24 : m ≤ 24) (hmin : min (min (n0 : Int) (n1 : Int)) 24 = (m : Int)) (hmin2 : min (n0 : Int) (min (n1 : Int) 24) = (m : Int)) :
    Calls Try.prog 4 #[.slice A0 n0 c0, .slice A1 n1 c1] w fun e w' => e = .returned (.bool true) ∧ Below w.heap.size w w' := by
  have HB : Hid (Below w.heap.size w w) := Lib.hid (Below.refl _ w)
  have HX := Lib.hid hR0
  have HY := Lib.hid hR1
  have hla := hR0.int_len
  have hlb := hR1.int_len
  have HWX := Lib.hid wf0
  have HWY := Lib.hid wf1
  have HCA : Hid (Can m (keyP x)) := Lib.hid (by rw [← hla]; exact keyP_can x (by omega))
  have HCB : Hid (Can m (keyP y)) := Lib.hid (by rw [← hlb]; exact keyP_can y (by omega))
  unfold maxLen at _hx0 _hx1
  clear hR0 hR1 wf0 wf1 hla hlb
  have hmin3 : ∀ (ts : Array TypeId) (t : TypeId) (W : World), (Builtin.min_ ts t #[.int .i64 (n0 : Int), .int .i64 (n1 : Int), .int .i64 24]).run Try.prog W = .ok (.int .i64 (m : Int)) W := fun ts t W => min3_run ts t _ _ _ _ W hmin
  go_enter Try.func4, Try.ntmps4
  have HQ := Lib.hid (lawOf_any x A0 m c0 w HX.out (by omega) HWX.out)
  go_wp2_with fail
  refine (HQ.out).mono ?_
  rintro e w1 ⟨A2, k2, rfl, hr2, hb⟩
  clear HQ
  replace HX := Lib.hid (HX.out.step hb)
  replace HY := Lib.hid (HY.out.step hb)
  replace HB := Lib.hid (HB.out.trans (hb.mono HB.out.size))
  have H2 := Lib.hid hr2
  clear hr2
  clear hb
  have HQ := Lib.hid (lawOf_any y A1 m c1 w1 HY.out (by omega) HWY.out)
  go_wp2_with fail
  refine (HQ.out).mono ?_
  rintro e w2 ⟨A3, k3, rfl, hr3, hb⟩
  clear HQ
  replace HX := Lib.hid (HX.out.step hb)
  replace HY := Lib.hid (HY.out.step hb)
  replace H2 := Lib.hid (H2.out.step hb)
  replace HB := Lib.hid (HB.out.trans (hb.mono HB.out.size))
  have H3 := Lib.hid hr3
  clear hr3
  clear hb
  clear HX HY
  generalize keyP x = a at *
  generalize keyP y = b at *
  have HQ := Lib.hid (meet_any a b A2 A3 m k2 k3 w2 H2.out H3.out (by omega) (can_wf HCA.out (by omega)) (can_wf HCB.out (by omega)) HCA.out.ok HCB.out.ok)
  go_wp2_with fail
  refine (HQ.out).mono ?_
  rintro e w3 ⟨A4, k4, rfl, hr4, hb⟩
  clear HQ
  replace H2 := Lib.hid (H2.out.step hb)
  replace H3 := Lib.hid (H3.out.step hb)
  replace HB := Lib.hid (HB.out.trans (hb.mono HB.out.size))
  have H4 := Lib.hid hr4
  clear hr4
  clear hb
  have HQ := Lib.hid (joinLub_any a b A2 A3 m k2 k3 w3 H2.out H3.out (by omega) HCA.out HCB.out)
  go_wp2_with fail
  refine (HQ.out).mono ?_
  rintro e w4 ⟨j, hj, A5, k5, rfl, hr5, hb⟩
  clear HQ
  replace H2 := Lib.hid (H2.out.step hb)
  replace H3 := Lib.hid (H3.out.step hb)
  replace H4 := Lib.hid (H4.out.step hb)
  replace HB := Lib.hid (HB.out.trans (hb.mono HB.out.size))
  have H5 := Lib.hid hr5
  clear hr5
  have HJ := Lib.hid hj
  clear hj
  clear hb
  have HQ := Lib.hid (refines_any a b A2 A3 m k2 k3 w4 H2.out H3.out (by omega) HCA.out.ok HCB.out.ok)
  go_wp2_with fail
  refine (HQ.out).mono ?_
  rintro e w5 ⟨⟨bb, rfl, hbb⟩, hb⟩
  clear HQ
  replace H2 := Lib.hid (H2.out.step hb)
  replace H3 := Lib.hid (H3.out.step hb)
  replace H4 := Lib.hid (H4.out.step hb)
  replace H5 := Lib.hid (H5.out.step hb)
  replace HB := Lib.hid (HB.out.trans (hb.mono HB.out.size))
  have HBB := Lib.hid hbb
  clear hbb
  clear hb
  have HQ := Lib.hid (equal_is (HBB.out.trans ((refP_iff HCA.out HCB.out).trans (refines_meet HCA.out HCB.out (by omega)).symm)) A4 A2 m k4 k2 w5 H4.out H2.out (by omega))
  go_wp2_with fail
  refine (HQ.out).mono ?_
  rintro e w6 ⟨rfl, hb⟩
  clear HQ
  replace H2 := Lib.hid (H2.out.step hb)
  replace H3 := Lib.hid (H3.out.step hb)
  replace H4 := Lib.hid (H4.out.step hb)
  replace H5 := Lib.hid (H5.out.step hb)
  replace HB := Lib.hid (HB.out.trans (hb.mono HB.out.size))
  clear hb
  have HQ := Lib.hid (equal_is (HBB.out.trans ((refP_iff HCA.out HCB.out).trans (refines_join HCB.out HJ.out).symm)) A5 A3 m k5 k3 w6 H5.out H3.out (by omega))
  go_wp2_with fail
  refine (HQ.out).mono ?_
  rintro e w7 ⟨rfl, hb⟩
  clear HQ
  replace H2 := Lib.hid (H2.out.step hb)
  replace H3 := Lib.hid (H3.out.step hb)
  replace H4 := Lib.hid (H4.out.step hb)
  replace H5 := Lib.hid (H5.out.step hb)
  replace HB := Lib.hid (HB.out.trans (hb.mono HB.out.size))
  clear hb
  have HQ := Lib.hid (refines_true (meet_l HCA.out) A4 A2 k4 k2 w7 H4.out H2.out (by omega) (meet_can HCA.out (by omega)) HCA.out)
  go_wp2_with fail
  refine (HQ.out).mono ?_
  rintro e w8 ⟨rfl, hb⟩
  clear HQ
  replace H2 := Lib.hid (H2.out.step hb)
  replace H3 := Lib.hid (H3.out.step hb)
  replace H4 := Lib.hid (H4.out.step hb)
  replace H5 := Lib.hid (H5.out.step hb)
  replace HB := Lib.hid (HB.out.trans (hb.mono HB.out.size))
  clear hb
  have HQ := Lib.hid (refines_true (meet_r HCA.out HCB.out) A4 A3 k4 k3 w8 H4.out H3.out (by omega) (meet_can HCA.out (by omega)) HCB.out)
  go_wp2_with fail
  refine (HQ.out).mono ?_
  rintro e w9 ⟨rfl, hb⟩
  clear HQ
  replace H2 := Lib.hid (H2.out.step hb)
  replace H3 := Lib.hid (H3.out.step hb)
  replace H4 := Lib.hid (H4.out.step hb)
  replace H5 := Lib.hid (H5.out.step hb)
  replace HB := Lib.hid (HB.out.trans (hb.mono HB.out.size))
  clear hb
  have HQ := Lib.hid (refines_true HJ.out.l A2 A5 k2 k5 w9 H2.out H5.out (by omega) HCA.out HJ.out.can)
  go_wp2_with fail
  refine (HQ.out).mono ?_
  rintro e w10 ⟨rfl, hb⟩
  clear HQ
  replace H2 := Lib.hid (H2.out.step hb)
  replace H3 := Lib.hid (H3.out.step hb)
  replace H4 := Lib.hid (H4.out.step hb)
  replace H5 := Lib.hid (H5.out.step hb)
  replace HB := Lib.hid (HB.out.trans (hb.mono HB.out.size))
  clear hb
  have HQ := Lib.hid (refines_true HJ.out.r A3 A5 k3 k5 w10 H3.out H5.out (by omega) HCB.out HJ.out.can)
  go_wp2_with fail
  refine (HQ.out).mono ?_
  rintro e w11 ⟨rfl, hb⟩
  clear HQ
  replace H2 := Lib.hid (H2.out.step hb)
  replace H3 := Lib.hid (H3.out.step hb)
  replace H4 := Lib.hid (H4.out.step hb)
  replace H5 := Lib.hid (H5.out.step hb)
  replace HB := Lib.hid (HB.out.trans (hb.mono HB.out.size))
  clear hb
  have HQ := Lib.hid (awake_any w11)
  go_wp2_with fail
  refine (HQ.out).mono ?_
  rintro e w12 ⟨rfl, hb⟩
  clear HQ
  replace H2 := Lib.hid (H2.out.step hb)
  replace H3 := Lib.hid (H3.out.step hb)
  replace H4 := Lib.hid (H4.out.step hb)
  replace H5 := Lib.hid (H5.out.step hb)
  replace HB := Lib.hid (HB.out.trans (hb.mono HB.out.size))
  clear hb
  go_wp2
  go_ret
  exact ⟨rfl, HB.out⟩
set_option maxRecDepth 100000 in
theorem contract (H : Type) (enc : TypeId × Value → H) (W : World) (base : Nat) (args : Array Value) (ds gs : List (DataW H)) (before : List MemPlace)
    (hval : ∀ (j : Nat) t v, Try.f4.params[j]? = some t → args[j]? = some v → Value.okWide Try.prog W .any base t v)
    (hW : DataW.Whole enc Try.prog Try.f4.params.toList Rows.partitionOrderSpec.vars false W args.toList ds gs before) :
    Calls Try.prog 4 args W fun e W' => ∃ v, e = .returned v ∧ Rows.partitionOrderSpec.post enc Try.prog Try.f4 false true false false W args v W' := by
  have hW' := hW
  obtain ⟨p, q, hA0, hV, rfl, hfz, hnd⟩ := hW
  have hA : DataW.TrodAll enc Try.prog W 0 (fun _ => true) true Try.f4.params.toList args.toList ds p := hA0
  rw [Try.params4] at hA hval
  obtain ⟨v0, vs0, d0, ds0, p0, q0, hargs, rfl, rfl, h0, r0⟩ := trodAll_cons hA
  obtain ⟨v1, vs1, d1, ds1, p1, q1, rfl, rfl, rfl, h1, r1⟩ := trodAll_cons r0
  obtain ⟨rfl, rfl, rfl⟩ := trodAll_nil r1
  obtain rfl : args = #[v0, v1] := by cases args; simp_all
  obtain ⟨rfl, rfl⟩ := trodVars_none hV
  obtain ⟨A0, n0, c0, rfl⟩ := okWide_slice Try.underlying22 (hval 0 22 v0 rfl rfl)
  have k0 := h0
  have lt0 : ∀ x ∈ p0, x.block < W.heap.size := by obtain ⟨m, hm⟩ := k0; exact DataW.trod_lt m _ _ _ hm
  obtain ⟨z0, w0⟩ : ∃ zs, IsRow .i64 W A0 n0 c0 zs := by
    obtain ⟨fuel, hf⟩ := h0
    rcases open_ints Try.underlying22 Try.underlying3 (by kernel_rfl) hf with ⟨hcs, _⟩ | ⟨x, l, c, zs, hcs, _, hl, hm, hz, _, hcell, hwz⟩
    · simp [Value.cells] at hcs
      obtain ⟨rfl, rfl, rfl⟩ := hcs
      exact ⟨[], .inl ⟨rfl, rfl, rfl, rfl⟩⟩
    · simp [Value.cells] at hcs
      obtain ⟨rfl, rfl, rfl⟩ := hcs
      exact ⟨zs, .inr ⟨_, rfl, hl, hm, by simpa using hz, hcell, hwz⟩⟩
  obtain ⟨A1, n1, c1, rfl⟩ := okWide_slice Try.underlying22 (hval 1 22 v1 rfl rfl)
  have k1 := h1
  have lt1 : ∀ x ∈ p1, x.block < W.heap.size := by obtain ⟨m, hm⟩ := k1; exact DataW.trod_lt m _ _ _ hm
  obtain ⟨z1, w1⟩ : ∃ zs, IsRow .i64 W A1 n1 c1 zs := by
    obtain ⟨fuel, hf⟩ := h1
    rcases open_ints Try.underlying22 Try.underlying3 (by kernel_rfl) hf with ⟨hcs, _⟩ | ⟨x, l, c, zs, hcs, _, hl, hm, hz, _, hcell, hwz⟩
    · simp [Value.cells] at hcs
      obtain ⟨rfl, rfl, rfl⟩ := hcs
      exact ⟨[], .inl ⟨rfl, rfl, rfl, rfl⟩⟩
    · simp [Value.cells] at hcs
      obtain ⟨rfl, rfl, rfl⟩ := hcs
      exact ⟨zs, .inr ⟨_, rfl, hl, hm, by simpa using hz, hcell, hwz⟩⟩
  clear hA0
  obtain ⟨hR0, hw0, hc0, hm0⟩ := w0.ints
  obtain ⟨hR1, hw1, hc1, hm1⟩ := w1.ints
  have hwalk : Calls Try.prog 4 #[.slice A0 n0 c0, .slice A1 n1 c1] W fun e w' => e = .returned (.bool true) ∧ Below W.heap.size W w' := by
    obtain ⟨m, hm⟩ : ∃ m : Nat, m = min (min n0 n1) 24 := ⟨_, rfl⟩
    exact walk ((z0.take n0).take m) ((z1.take n1).take m) A0 A1 n0 n1 c0 c1 m W (hR0.take (by omega)) (wfs_of (fun x hx => hw0 x (List.mem_of_mem_take hx))) (by omega) (by omega) hm0 (hR1.take (by omega)) (wfs_of (fun x hx => hw1 x (List.mem_of_mem_take hx))) (by omega) (by omega) hm1 (by omega) (by omega) (by omega)
  refine hwalk.mono fun e W' ⟨he, hg⟩ => ?_
  subst he
  exact ⟨_, rfl, _, _, _, [], _, [], hW', trodAll_mk1 (shut_bool Try.underlying4 _), (trodAll_cons_mk (Below.trod laidOut (by kernel_rfl) (of_decide_eq_true (by kernel_rfl)) k0 hg lt0) (trodAll_cons_mk (Below.trod laidOut (by kernel_rfl) (of_decide_eq_true (by kernel_rfl)) k1 hg lt1) trodAll_mk0)), rfl, hg.frame _, fun h => by cases h⟩
theorem reads (os : Os) {H : Type} (enc : TypeId × Value → H) : ∃ places, DataW.whole enc Try.prog ((laidW os).forCall (fun _ _ => 0) ⟨#[], #[.slice none 0 0, .slice none 0 0], []⟩).memory Try.f4.params.toList Rows.partitionOrderSpec.vars false #[Value.slice none 0 0, Value.slice none 0 0].toList 8 = some ([.nil, .nil], [], places) :=
  ⟨[], by kernel_rfl⟩
set_option maxRecDepth 100000 in
theorem lifted (os : Os) (started : os.Started) (H : Type) (enc : TypeId × Value → H) (F : Stop.Interp) :
    ReturnsInHanded {} Try.checked os 4 .any ((OpenSpec.ofChange Rows.partitionOrderSpec).preRow enc Try.prog Try.f4 Rows.partitionOrderRow.domain false Rows.partitionOrderRow.laid) (((OpenSpec.ofChange Rows.partitionOrderSpec).at F).post enc Try.prog Try.f4 false true false false) := by
  obtain ⟨places, hx⟩ := reads os enc
  refine returnsInHanded_of_row (C := Try.checked) (s := OpenSpec.ofChange Rows.partitionOrderSpec) own started (by kernel_rfl) Try.func4
    (witness_row_at (enc := enc) (C := Try.checked) false (laidW os) #[.slice none 0 0, .slice none 0 0] (laidW_os os) (vars_ok os _) (heap_ok os _) (by kernel_rfl)
      (OpenSpec.preRow_of_cond 8 hx (by kernel_rfl) (fun k hk => by cases hk) (by kernel_rfl) (laid_met os _))) ?_
  intro W base args ds gs before hval hW _ _ _ _ _ _
  exact contract H enc W base args ds gs before hval hW
theorem said : Rows.PartitionOrderSaid :=
  OpenClaim.holds_of_cond 4 Try.f4 rfl rfl rfl rfl rfl rfl rfl ⟨rfl, rfl, rfl, rfl, rfl⟩ rfl rfl rfl rfl rfl (by kernel_rfl) Try.func4 (by kernel_rfl)
    (of_decide_eq_true (by kernel_rfl)) (by unfold Func.isWrapper; first | (rw [if_pos (by decide +kernel)]; kernel_rfl) | (rw [if_neg (by decide +kernel)]; exact ⟨rfl, rfl⟩))
    (fun os started H enc _ F => by rw [OpenClaim.pre_eq_preRow]; exact lifted os started H enc F)
#print axioms said
end Go.Proofs.Ytcemkjmmmjabkaa.partitionOrder
