/- PartitionChains (P3.2): two points are together in the Join exactly if a chain leads from one to the other over the blocks of a and b, for all lists of keys. No condition. -/
import Derived.Test.YtcemkjmmmjabkaaWp
import Derived.Test.YtcemkjmmmjabkaaPq
namespace Go.Proofs.Ytcemkjmmmjabkaa.partitionChains
open Go.ChangeShapes Go.WideShapes Go.ChangeAt Go.RowKit Go.Proofs.Ytcemkjmmmjabkaa Go.Proofs.Ws
theorem min3_run {P : Program} (ts : Array TypeId) (t : TypeId) (x y z m : Int) (w : World) (h : min (min x y) z = m) :
    (Builtin.min_ ts t #[.int .i64 x, .int .i64 y, .int .i64 z]).run P w = .ok (.int .i64 m) w := by
  have e : (Builtin.min_ ts t #[.int .i64 x, .int .i64 y, .int .i64 z]).run P w = .ok (.int .i64 (if z < (if y < x then y else x) then z else (if y < x then y else x))) w := by
    simp [Builtin.min_, Builtin.min2]
  rw [e]
  congr 2
  rw [← h]
  simp only [Int.min_def]
  omega
theorem bit_one {x v : Nat} (hx : x < 18446744073709551616) (h : x.testBit v = true) : bits .and .u64 ((x : Int) / 2 ^ v) 1 = 1 := by
  have e1 : x.testBit v = decide (x / 2 ^ v % 2 = 1) := Nat.testBit_eq_decide_div_mod_eq
  rw [h] at e1
  have e2 : x / 2 ^ v % 2 = 1 := by simpa using e1.symm
  have hd : x / 2 ^ v < 18446744073709551616 := Nat.lt_of_le_of_lt (Nat.div_le_self _ _) hx
  have e3 : (x : Int) / 2 ^ v = ((x / 2 ^ v : Nat) : Int) := by
    have : ((2 : Int) ^ v) = ((2 ^ v : Nat) : Int) := by simp
    rw [this]; rfl
  rw [e3, show (1 : Int) = ((1 : Nat) : Int) from rfl, u64_and_nat _ 1 hd (by decide), Nat.and_one_is_mod, e2]
theorem bit_none {x v : Nat} (hx : x < 18446744073709551616) (h : x.testBit v = false) : bits .and .u64 ((x : Int) / 2 ^ v) 1 = 0 := by
  have e1 : x.testBit v = decide (x / 2 ^ v % 2 = 1) := Nat.testBit_eq_decide_div_mod_eq
  rw [h] at e1
  have e2 : x / 2 ^ v % 2 = 0 := by
    have : ¬ x / 2 ^ v % 2 = 1 := by simpa using e1.symm
    omega
  have hd : x / 2 ^ v < 18446744073709551616 := Nat.lt_of_le_of_lt (Nat.div_le_self _ _) hx
  have e3 : (x : Int) / 2 ^ v = ((x / 2 ^ v : Nat) : Int) := by
    have : ((2 : Int) ^ v) = ((2 ^ v : Nat) : Int) := by simp
    rw [this]; rfl
  rw [e3, show (1 : Int) = ((1 : Nat) : Int) from rfl, u64_and_nat _ 1 hd (by decide), Nat.and_one_is_mod, e2]; rfl
theorem blkV_lt {n : Nat} {p : List Int} (h : Can n p) (hn : n ≤ 64) (i : Int) : blkV p i < 18446744073709551616 := by
  unfold blkV
  split
  · exact cls_lt _ _ _ (by rw [h.len]; exact hn)
  · decide
theorem passC_lt {n : Nat} {a b : List Int} (ha : Can n a) (hb : Can n b) (hn : n ≤ 64) (R : Nat) (h : R < 18446744073709551616) : ∀ k, passC a b k R < 18446744073709551616
  | 0 => h
  | k + 1 => stepC_lt k _ (passC_lt ha hb hn R h k) (blkV_lt ha hn _) (blkV_lt hb hn _)
theorem iterC_lt {n : Nat} {a b : List Int} (ha : Can n a) (hb : Can n b) (hn : n ≤ 64) (R : Nat) (h : R < 18446744073709551616) : ∀ t, iterC a b n t R < 18446744073709551616
  | 0 => h
  | t + 1 => passC_lt ha hb hn _ (iterC_lt ha hb hn R h t) n
set_option maxRecDepth 100000 in
set_option maxHeartbeats 6400000 in
theorem walk (x y : List Int) (A0 A1 : Option Addr) (n0 n1 c0 c1 m : Nat) (w : World) (hR0 : Reads w w.heap.size 1 A0 m (ints x)) (wf0 : WFs x) (_hm0 : m ≤ n0) (hc0 : m ≤ c0) (_hx0 : n0 ≤ maxLen) (hR1 : Reads w w.heap.size 1 A1 m (ints y)) (wf1 : WFs y) (_hm1 : m ≤ n1) (hc1 : m ≤ c1) (_hx1 : n1 ≤ maxLen) (h24 : m ≤ 16) (hmin : min (min (n0 : Int) (n1 : Int)) 16 = (m : Int)) :
    Calls Try.prog 5 #[.slice A0 n0 c0, .slice A1 n1 c1] w fun e w' => e = .returned (.bool true) ∧ Below w.heap.size w w' := by
  have HB : Hid (Below w.heap.size w w) := Lib.hid (Below.refl _ w)
  have HX := Lib.hid hR0
  have HY := Lib.hid hR1
  have hla := hR0.int_len
  have hlb := hR1.int_len
  have HWX := Lib.hid wf0
  have HWY := Lib.hid wf1
  have HCA : Hid (Can m (keyP x)) := Lib.hid (by rw [← hla]; exact keyP_can x (by omega))
  have HCB : Hid (Can m (keyP y)) := Lib.hid (by rw [← hlb]; exact keyP_can y (by omega))
  unfold maxLen at _hx0 _hx1
  clear hR0 hR1 wf0 wf1 hla hlb
  have hmin3 : ∀ (ts : Array TypeId) (t : TypeId) (W : World), (Builtin.min_ ts t #[.int .i64 (n0 : Int), .int .i64 (n1 : Int), .int .i64 16]).run Try.prog W = .ok (.int .i64 (m : Int)) W := fun ts t W => min3_run ts t _ _ _ _ W hmin
  go_enter Try.func5, Try.ntmps5
  have HQ := Lib.hid (lawOf_any x A0 m c0 w HX.out (by omega) HWX.out)
  go_wp2_with fail
  refine (HQ.out).mono ?_
  rintro e w1 ⟨A2, k2, rfl, hr2, hb⟩
  clear HQ
  replace HX := Lib.hid (HX.out.step hb)
  replace HY := Lib.hid (HY.out.step hb)
  replace HB := Lib.hid (HB.out.trans (hb.mono HB.out.size))
  have H2 := Lib.hid hr2
  clear hr2
  clear hb
  have HQ := Lib.hid (lawOf_any y A1 m c1 w1 HY.out (by omega) HWY.out)
  go_wp2_with fail
  refine (HQ.out).mono ?_
  rintro e w2 ⟨A3, k3, rfl, hr3, hb⟩
  clear HQ
  replace HX := Lib.hid (HX.out.step hb)
  replace HY := Lib.hid (HY.out.step hb)
  replace H2 := Lib.hid (H2.out.step hb)
  replace HB := Lib.hid (HB.out.trans (hb.mono HB.out.size))
  have H3 := Lib.hid hr3
  clear hr3
  clear hb
  clear HX HY
  generalize keyP x = a at *
  generalize keyP y = b at *
  have HQ := Lib.hid (joinLub_any a b A2 A3 m k2 k3 w2 H2.out H3.out (by omega) HCA.out HCB.out)
  go_wp2_with fail
  refine (HQ.out).mono ?_
  rintro e w3 ⟨j, hj, A4, k4, rfl, hr4, hb⟩
  clear HQ
  replace H2 := Lib.hid (H2.out.step hb)
  replace H3 := Lib.hid (H3.out.step hb)
  replace HB := Lib.hid (HB.out.trans (hb.mono HB.out.size))
  have H4 := Lib.hid hr4
  clear hr4
  have HJ := Lib.hid hj
  clear hj
  clear hb
  clear hmin3 HWX HWY
  clear _hx0 _hx1 hmin
  go_wp2
  go_loopw [57] (fun i wr => ∃ k : Nat, k ≤ m ∧ i = .int .i64 k ∧ Hid (Below w3.heap.size w3 wr)) (fun i _ => m - (intOf i).toNat)
  case atStart => exact ⟨0, Nat.zero_le _, rfl, Lib.hid (Below.refl _ _)⟩
  case round =>
    obtain ⟨k, hk, rfl, HI⟩ := hrel
    by_cases hlt : k < m
    · have hpw := wrap_pow k (show k < 64 by omega)
      have HP2 : Hid (p2 k < 18446744073709551616) := Lib.hid (Nat.pow_lt_pow_right (by decide) (show k < 64 by omega))
      have HEND : Hid (iterC a b m m (p2 k) = blkV j (k : Int)) := Lib.hid (chains_block HCA.out HCB.out HJ.out hlt)
      have HP0 : Hid (iterC a b m 0 (p2 k) = p2 k) := Lib.hid rfl
      generalize p2 k = x0 at *
      have hkm : decide ((k : Int) < (m : Int)) = true := by simp; omega
      go_wp2
      try simp only [hpw]
      obtain ⟨wo, rfl⟩ : ∃ wo : World, wo = wr := ⟨_, rfl⟩
      go_loopw [13, 63] (fun rv t wr' => ∃ q : Nat, q ≤ m ∧ t = .int .i64 q ∧ rv = .int .u64 (iterC a b m q x0 : Int) ∧ Hid (Below w3.heap.size w3 wr')) (fun _ t _ => m - (intOf t).toNat)
      case atStart => exact ⟨0, Nat.zero_le _, rfl, rfl, HI⟩
      case round =>
        clear HI
        obtain ⟨q, hq, rfl, rfl, HI⟩ := hrel
        by_cases hlq : q < m
        · have HRL : Hid (iterC a b m q x0 < 18446744073709551616) := Lib.hid (iterC_lt HCA.out HCB.out (by omega) _ HP2.out q)
          have HNX : Hid (passC a b m (iterC a b m q x0) = iterC a b m (q + 1) x0) := Lib.hid rfl
          generalize iterC a b m q x0 = R at *
          go_wp2
          obtain ⟨wo2, rfl⟩ : ∃ wo2 : World, wo2 = wr := ⟨_, rfl⟩
          go_loopw [13, 66] (fun rv t wr'' => ∃ u : Nat, u ≤ m ∧ t = .int .i64 u ∧ rv = .int .u64 (passC a b u R : Int) ∧ Hid (Below w3.heap.size w3 wr'')) (fun _ t _ => m - (intOf t).toNat)
          case atStart => exact ⟨0, Nat.zero_le _, rfl, rfl, HI⟩
          case round =>
            clear HI
            obtain ⟨u, hu, rfl, rfl, HI⟩ := hrel
            by_cases hlu : u < m
            · have hTL := passC_lt HCA.out HCB.out (by omega) R HRL.out u
              have HNT : Hid (stepC a b u (passC a b u R) = passC a b (u + 1) R) := Lib.hid rfl
              by_cases hbit : (passC a b u R).testBit u = true
              · have hb1 := bit_one hTL hbit
                have hx1 := blkV_lt HCA.out (by omega) (u : Int)
                have hx2 := blkV_lt HCB.out (by omega) (u : Int)
                have ho1 : bits .or .u64 (blkV a (u : Int) : Int) (blkV b (u : Int) : Int) = ((blkV a (u : Int) ||| blkV b (u : Int) : Nat) : Int) := u64_or_nat _ _ hx1 hx2
                have ho2 : bits .or .u64 (passC a b u R : Int) ((blkV a (u : Int) ||| blkV b (u : Int) : Nat) : Int) = ((passC a b u R ||| (blkV a (u : Int) ||| blkV b (u : Int)) : Nat) : Int) := u64_or_nat _ _ hTL (Nat.or_lt_two_pow (n := 64) hx1 hx2)
                have HNEW : Hid (passC a b u R ||| (blkV a (u : Int) ||| blkV b (u : Int)) = passC a b (u + 1) R) := Lib.hid (by rw [← HNT.out]; unfold stepC; rw [if_pos hbit])
                have HQ1 := Lib.hid (fun (W : World) (hW : Below w3.heap.size w3 W) => pBlock_any a (u : Int) A2 m k2 W (H2.out.step hW) (by unfold maxLen; omega))
                have HQ2 := Lib.hid (fun (W : World) (hW : Below w3.heap.size w3 W) => pBlock_any b (u : Int) A3 m k3 W (H3.out.step hW) (by unfold maxLen; omega))
                clear HNT hbit hTL hx1 hx2
                generalize blkV a (u : Int) = va at *
                generalize blkV b (u : Int) = vb at *
                generalize passC a b u R = T at *
                have hlt' : decide ((u : Int) < (m : Int)) = true := by simp; omega
                have HA := Lib.hid (HQ1.out wr HI.out)
                go_wp2_with fail
                refine (HA.out).mono ?_
                rintro e wA ⟨rfl, hbA⟩
                clear HA
                replace HI := Lib.hid (HI.out.trans (hbA.mono HI.out.size))
                clear hbA
                have HA := Lib.hid (HQ2.out wA HI.out)
                go_wp2_with fail
                refine (HA.out).mono ?_
                rintro e wB ⟨rfl, hbB⟩
                clear HA
                replace HI := Lib.hid (HI.out.trans (hbB.mono HI.out.size))
                clear hbB
                go_wp2
                go_roundw
                case rel => exact ⟨u + 1, by omega, by go_num, by rw [← HNEW.out], HI⟩
                case measure => simp [intOf]; omega
              · have hb1 := bit_none hTL (by simpa using hbit)
                have HNEW : Hid (passC a b u R = passC a b (u + 1) R) := Lib.hid (by rw [← HNT.out]; unfold stepC; rw [if_neg hbit])
                clear HNT hbit hTL
                generalize passC a b u R = T at *
                have hlt' : decide ((u : Int) < (m : Int)) = true := by simp; omega
                go_wp2
                go_roundw
                case rel => exact ⟨u + 1, by omega, by go_num, by rw [← HNEW.out], HI⟩
                case measure => simp [intOf]; omega
            · have hum : m = u := by omega
              subst hum
              go_wp2
              go_roundw
              case rel => exact ⟨q + 1, by omega, by go_num, by rw [← HNX.out], HI⟩
              case measure => simp [intOf]; omega
        · have hqm : m = q := by omega
          subst hqm
          rw [HEND.out]
          have HA := Lib.hid (pBlock_any j (k : Int) A4 m k4 wr (H4.out.step HI.out) (by unfold maxLen; omega))
          generalize blkV j (k : Int) = V at *
          go_wp2_with fail
          refine (HA.out).mono ?_
          rintro e wA ⟨rfl, hbA⟩
          clear HA
          replace HI := Lib.hid (HI.out.trans (hbA.mono HI.out.size))
          clear hbA
          go_wp2
          go_roundw
          case rel => exact ⟨k + 1, by omega, by go_num, HI⟩
          case measure => simp [intOf]; omega
    · have hkm : m = k := by omega
      subst hkm
      have HA := Lib.hid (awake_any wr)
      go_wp2_with fail
      refine (HA.out).mono ?_
      rintro e wA ⟨rfl, hbA⟩
      clear HA
      replace HI := Lib.hid (HI.out.trans (hbA.mono HI.out.size))
      clear hbA
      go_wp2
      go_ret
      exact ⟨rfl, HB.out.trans (HI.out.mono HB.out.size)⟩
set_option maxRecDepth 100000 in
theorem contract (H : Type) (enc : TypeId × Value → H) (W : World) (base : Nat) (args : Array Value) (ds gs : List (DataW H)) (before : List MemPlace)
    (hval : ∀ (j : Nat) t v, Try.f5.params[j]? = some t → args[j]? = some v → Value.okWide Try.prog W .any base t v)
    (hW : DataW.Whole enc Try.prog Try.f5.params.toList Rows.partitionChainsSpec.vars false W args.toList ds gs before) :
    Calls Try.prog 5 args W fun e W' => ∃ v, e = .returned v ∧ Rows.partitionChainsSpec.post enc Try.prog Try.f5 false true false false W args v W' := by
  have hW' := hW
  obtain ⟨p, q, hA0, hV, rfl, hfz, hnd⟩ := hW
  have hA : DataW.TrodAll enc Try.prog W 0 (fun _ => true) true Try.f5.params.toList args.toList ds p := hA0
  rw [Try.params5] at hA hval
  obtain ⟨v0, vs0, d0, ds0, p0, q0, hargs, rfl, rfl, h0, r0⟩ := trodAll_cons hA
  obtain ⟨v1, vs1, d1, ds1, p1, q1, rfl, rfl, rfl, h1, r1⟩ := trodAll_cons r0
  obtain ⟨rfl, rfl, rfl⟩ := trodAll_nil r1
  obtain rfl : args = #[v0, v1] := by cases args; simp_all
  obtain ⟨rfl, rfl⟩ := trodVars_none hV
  obtain ⟨A0, n0, c0, rfl⟩ := okWide_slice Try.underlying22 (hval 0 22 v0 rfl rfl)
  have k0 := h0
  have lt0 : ∀ x ∈ p0, x.block < W.heap.size := by obtain ⟨m, hm⟩ := k0; exact DataW.trod_lt m _ _ _ hm
  obtain ⟨z0, w0⟩ : ∃ zs, IsRow .i64 W A0 n0 c0 zs := by
    obtain ⟨fuel, hf⟩ := h0
    rcases open_ints Try.underlying22 Try.underlying3 (by kernel_rfl) hf with ⟨hcs, _⟩ | ⟨x, l, c, zs, hcs, _, hl, hm, hz, _, hcell, hwz⟩
    · simp [Value.cells] at hcs
      obtain ⟨rfl, rfl, rfl⟩ := hcs
      exact ⟨[], .inl ⟨rfl, rfl, rfl, rfl⟩⟩
    · simp [Value.cells] at hcs
      obtain ⟨rfl, rfl, rfl⟩ := hcs
      exact ⟨zs, .inr ⟨_, rfl, hl, hm, by simpa using hz, hcell, hwz⟩⟩
  obtain ⟨A1, n1, c1, rfl⟩ := okWide_slice Try.underlying22 (hval 1 22 v1 rfl rfl)
  have k1 := h1
  have lt1 : ∀ x ∈ p1, x.block < W.heap.size := by obtain ⟨m, hm⟩ := k1; exact DataW.trod_lt m _ _ _ hm
  obtain ⟨z1, w1⟩ : ∃ zs, IsRow .i64 W A1 n1 c1 zs := by
    obtain ⟨fuel, hf⟩ := h1
    rcases open_ints Try.underlying22 Try.underlying3 (by kernel_rfl) hf with ⟨hcs, _⟩ | ⟨x, l, c, zs, hcs, _, hl, hm, hz, _, hcell, hwz⟩
    · simp [Value.cells] at hcs
      obtain ⟨rfl, rfl, rfl⟩ := hcs
      exact ⟨[], .inl ⟨rfl, rfl, rfl, rfl⟩⟩
    · simp [Value.cells] at hcs
      obtain ⟨rfl, rfl, rfl⟩ := hcs
      exact ⟨zs, .inr ⟨_, rfl, hl, hm, by simpa using hz, hcell, hwz⟩⟩
  clear hA0
  obtain ⟨hR0, hw0, hc0, hm0⟩ := w0.ints
  obtain ⟨hR1, hw1, hc1, hm1⟩ := w1.ints
  have hwalk : Calls Try.prog 5 #[.slice A0 n0 c0, .slice A1 n1 c1] W fun e w' => e = .returned (.bool true) ∧ Below W.heap.size W w' := by
    obtain ⟨m, hm⟩ : ∃ m : Nat, m = min (min n0 n1) 16 := ⟨_, rfl⟩
    exact walk ((z0.take n0).take m) ((z1.take n1).take m) A0 A1 n0 n1 c0 c1 m W (hR0.take (by omega)) (wfs_of (fun x hx => hw0 x (List.mem_of_mem_take hx))) (by omega) (by omega) hm0 (hR1.take (by omega)) (wfs_of (fun x hx => hw1 x (List.mem_of_mem_take hx))) (by omega) (by omega) hm1 (by omega) (by omega)
  refine hwalk.mono fun e W' ⟨he, hg⟩ => ?_
  subst he
  exact ⟨_, rfl, _, _, _, [], _, [], hW', trodAll_mk1 (shut_bool Try.underlying4 _), (trodAll_cons_mk (Below.trod laidOut (by kernel_rfl) (of_decide_eq_true (by kernel_rfl)) k0 hg lt0) (trodAll_cons_mk (Below.trod laidOut (by kernel_rfl) (of_decide_eq_true (by kernel_rfl)) k1 hg lt1) trodAll_mk0)), rfl, hg.frame _, fun h => by cases h⟩
theorem reads (os : Os) {H : Type} (enc : TypeId × Value → H) : ∃ places, DataW.whole enc Try.prog ((laidW os).forCall (fun _ _ => 0) ⟨#[], #[.slice none 0 0, .slice none 0 0], []⟩).memory Try.f5.params.toList Rows.partitionChainsSpec.vars false #[Value.slice none 0 0, Value.slice none 0 0].toList 8 = some ([.nil, .nil], [], places) :=
  ⟨[], by kernel_rfl⟩
set_option maxRecDepth 100000 in
theorem lifted (os : Os) (started : os.Started) (H : Type) (enc : TypeId × Value → H) (F : Stop.Interp) :
    ReturnsInHanded {} Try.checked os 5 .any ((OpenSpec.ofChange Rows.partitionChainsSpec).preRow enc Try.prog Try.f5 Rows.partitionChainsRow.domain false Rows.partitionChainsRow.laid) (((OpenSpec.ofChange Rows.partitionChainsSpec).at F).post enc Try.prog Try.f5 false true false false) := by
  obtain ⟨places, hx⟩ := reads os enc
  refine returnsInHanded_of_row (C := Try.checked) (s := OpenSpec.ofChange Rows.partitionChainsSpec) own started (by kernel_rfl) Try.func5
    (witness_row_at (enc := enc) (C := Try.checked) false (laidW os) #[.slice none 0 0, .slice none 0 0] (laidW_os os) (vars_ok os _) (heap_ok os _) (by kernel_rfl)
      (OpenSpec.preRow_of_cond 8 hx (by kernel_rfl) (fun k hk => by cases hk) (by kernel_rfl) (laid_met os _))) ?_
  intro W base args ds gs before hval hW _ _ _ _ _ _
  exact contract H enc W base args ds gs before hval hW
theorem said : Rows.PartitionChainsSaid :=
  OpenClaim.holds_of_cond 5 Try.f5 rfl rfl rfl rfl rfl rfl rfl ⟨rfl, rfl, rfl, rfl, rfl⟩ rfl rfl rfl rfl rfl (by kernel_rfl) Try.func5 (by kernel_rfl)
    (of_decide_eq_true (by kernel_rfl)) (by unfold Func.isWrapper; first | (rw [if_pos (by decide +kernel)]; kernel_rfl) | (rw [if_neg (by decide +kernel)]; exact ⟨rfl, rfl⟩))
    (fun os started H enc _ F => by rw [OpenClaim.pre_eq_preRow]; exact lifted os started H enc F)
#print axioms said
end Go.Proofs.Ytcemkjmmmjabkaa.partitionChains
