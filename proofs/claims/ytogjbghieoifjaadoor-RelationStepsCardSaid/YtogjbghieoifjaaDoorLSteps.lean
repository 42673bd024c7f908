/- RelationSteps (P2.5, P2.6): a path leads along pairs of the relation, from one set to the other, and there is one exactly if a point of the second set is reached, for every list of words and all sets. Condition: the listed package variables hold what the program's text lays in them. -/
import Derived.Test.YtogjbghieoifjaaDoorLd
namespace Go.Proofs.YtogjbghieoifjaaDoor.relationSteps
open Go.ChangeShapes Go.WideShapes Go.ChangeAt Go.RowKit Go.Proofs.YtogjbghieoifjaaDoor Go.Proofs.Ws
theorem iv_cell {w : World} {B n : Nat} {A : Option Addr} {p : List Nat} (h : Reads w B 1 A n (iv p)) {k : Nat} (hk : k < n) : ∃ ad, A = some ad ∧ w.cell? (ad.add k) = some (.int .i64 ((p.getD k 0 : Nat) : Int)) := by
  obtain ⟨ad, u, hA, _, hu, hc⟩ := h.at_ hk
  obtain ⟨x, hx, rfl⟩ := iv_get _ _ _ hu
  refine ⟨ad, hA, ?_⟩
  rw [List.getD_eq_getElem?_getD, hx]
  exact hc
theorem bit_one {x v : Nat} (hx : x < 18446744073709551616) (h : x.testBit v = true) : bits .and .u64 ((x : Int) / 2 ^ v) 1 = 1 := by
  have e1 : x.testBit v = decide (x / 2 ^ v % 2 = 1) := Nat.testBit_eq_decide_div_mod_eq
  rw [h] at e1
  have e2 : x / 2 ^ v % 2 = 1 := by simpa using e1.symm
  have hd : x / 2 ^ v < 18446744073709551616 := Nat.lt_of_le_of_lt (Nat.div_le_self _ _) hx
  have e3 : (x : Int) / 2 ^ v = ((x / 2 ^ v : Nat) : Int) := by
    have : ((2 : Int) ^ v) = ((2 ^ v : Nat) : Int) := by simp
    rw [this]; rfl
  rw [e3, show (1 : Int) = ((1 : Nat) : Int) from rfl, u64_and_nat _ 1 hd (by decide), Nat.and_one_is_mod, e2]
set_option maxRecDepth 100000 in
set_option maxHeartbeats 3200000 in
theorem walk_big1 (A : Option Addr) (m c frm s : Nat) (w : World) (h1 : 64 < m) (hT : Tab w) :
    Calls Tryd.prog 8 #[.slice A m c, .int .u64 frm, .int .u64 s] w fun e w' => e = .returned (.bool true) ∧ Below w.heap.size w w' := by
  have HB : Hid (Below w.heap.size w w) := Lib.hid (Below.refl _ w)
  have HT := Lib.hid hT
  clear hT
  go_enter Tryd.func8, Tryd.ntmps8
  have HX := Lib.hid (awake_any w HT.out)
  go_wp2_with fail
  refine (HX.out).mono ?_
  rintro e w1 ⟨rfl, hb⟩
  clear HX
  replace HB := Lib.hid (HB.out.trans (hb.mono HB.out.size))
  replace HT := Lib.hid (HT.out.below hb)
  clear hb
  go_wp2
  go_ret
  exact ⟨rfl, HB.out⟩
set_option maxRecDepth 100000 in
set_option maxHeartbeats 3200000 in
theorem walk_big2 (l : List Nat) (A : Option Addr) (m c frm s : Nat) (w : World) (hR : Reads w w.heap.size 1 A m (us l)) (hw : Words l) (h1 : m ≤ 64) (h0 : relErr m l ≠ 0) (hT : Tab w) :
    Calls Tryd.prog 8 #[.slice A m c, .int .u64 frm, .int .u64 s] w fun e w' => e = .returned (.bool true) ∧ Below w.heap.size w w' := by
  have HR := Lib.hid hR
  have HW := Lib.hid hw
  have hne : (relErr m l != 0) = true := by simp [h0]
  clear hR hw h0
  have HB : Hid (Below w.heap.size w w) := Lib.hid (Below.refl _ w)
  have HT := Lib.hid hT
  clear hT
  go_enter Tryd.func8, Tryd.ntmps8
  have HX := Lib.hid (toB_same (check_any (m : Nat) l A m c _ w HR.out HW.out (by unfold maxLen; omega)))
  go_wp2_with fail
  refine (HX.out).mono ?_
  rintro e w1 ⟨rfl, hb⟩
  clear HX
  replace HR := Lib.hid (HR.out.step hb)
  replace HB := Lib.hid (HB.out.trans (hb.mono HB.out.size))
  replace HT := Lib.hid (HT.out.below hb)
  clear hb
  have HX := Lib.hid (awake_any w1 HT.out)
  go_wp2_with fail
  refine (HX.out).mono ?_
  rintro e w2 ⟨rfl, hb⟩
  clear HX
  replace HR := Lib.hid (HR.out.step hb)
  replace HB := Lib.hid (HB.out.trans (hb.mono HB.out.size))
  replace HT := Lib.hid (HT.out.below hb)
  clear hb
  go_wp2
  go_ret
  exact ⟨rfl, HB.out⟩
set_option maxRecDepth 100000 in
set_option maxHeartbeats 6400000 in
theorem walk_small (l : List Nat) (A : Option Addr) (m c frm s : Nat) (w : World) (hR : Reads w w.heap.size 1 A m (us l)) (hw : Words l) (h1 : m ≤ 64) (hf : frm < 18446744073709551616) (hs : s < 18446744073709551616) (h0 : relErr m l = 0) (hT : Tab w) :
    Calls Tryd.prog 8 #[.slice A m c, .int .u64 frm, .int .u64 s] w fun e w' => e = .returned (.bool true) ∧ Below w.heap.size w w' := by
  have HL : Hid (Sh m l) := Lib.hid (rel_sh h0 hR.word_len)
  have HR := Lib.hid hR
  have HW := Lib.hid hw
  have HF := Lib.hid hf
  have HSS := Lib.hid hs
  clear hR hw hf hs
  have HB : Hid (Below w.heap.size w w) := Lib.hid (Below.refl _ w)
  have HT := Lib.hid hT
  clear hT
  go_enter Tryd.func8, Tryd.ntmps8
  have HX := Lib.hid (toB_same (check_any (m : Nat) l A m c _ w HR.out HW.out (by unfold maxLen; omega)))
  go_wp2_with fail
  refine (HX.out).mono ?_
  rintro e w1 ⟨rfl, hb⟩
  clear HX
  replace HR := Lib.hid (HR.out.step hb)
  replace HB := Lib.hid (HB.out.trans (hb.mono HB.out.size))
  replace HT := Lib.hid (HT.out.below hb)
  clear hb
  have HX := Lib.hid (path_any l frm s A m c w1 HR.out HW.out (by unfold maxLen; omega) HF.out HSS.out HT.out)
  go_wp2_with fail
  refine (HX.out).mono ?_
  rintro e w2 ⟨p, hp, A1, k1, rfl, hr1, hb⟩
  clear HX
  replace HR := Lib.hid (HR.out.step hb)
  replace HB := Lib.hid (HB.out.trans (hb.mono HB.out.size))
  replace HT := Lib.hid (HT.out.below hb)
  have H1 := Lib.hid hr1
  clear hr1
  have HP := Lib.hid hp
  clear hp
  clear hb
  have HR64 : Hid (reachV l frm < 18446744073709551616) := Lib.hid (by
    apply Nat.lt_of_not_le
    intro hge
    obtain ⟨v, hv, hb⟩ := Nat.exists_ge_and_testBit_of_ge_two_pow (n := 64) hge
    have e : reachV l frm = itR l m (imgV l frm) := by unfold reachV; rw [HL.out.1, if_pos h0]
    have hlt : itR l m (imgV l frm) < 2 ^ m := reach_in HL.out.2 m _ (imgV_in HL.out.2 _)
    rw [e, Nat.testBit_lt_two_pow (Nat.lt_of_lt_of_le hlt (Nat.pow_le_pow_right (by decide) (by omega)))] at hb
    cases hb)
  have hand : bits .and .u64 (reachV l frm : Int) (s : Int) = ((reachV l frm &&& s : Nat) : Int) := u64_and_nat _ _ HR64.out HSS.out
  have HRC := Lib.hid (reach_any l frm A m c w2 HR.out HW.out (by unfold maxLen; omega) HF.out HT.out)
  rcases HP.out.ok h0 HL.out.1 HF.out with ⟨rfl, hz⟩ | ⟨hz, hlen2, hlen, hpn, hpr, hpf, hps⟩
  · have hz0 : (((reachV l frm &&& s : Nat) : Int) != 0) = false := by rw [hz]; rfl
    clear hz
    generalize reachV l frm &&& s = t at *
    generalize reachV l frm = rv at *
    go_wp2_with fail
    refine (HRC.out).mono ?_
    rintro e w3 ⟨rfl, hb⟩
    clear HRC
    replace HR := Lib.hid (HR.out.step hb)
    replace H1 := Lib.hid (H1.out.step hb)
    replace HB := Lib.hid (HB.out.trans (hb.mono HB.out.size))
    replace HT := Lib.hid (HT.out.below hb)
    clear hb
    go_wp2
    go_loopw [8] (fun i wr => i = .int .i64 ((0 : Nat) : Int) ∧ wr = w3) (fun i _ => 0 - (intOf i).toNat)
    case atStart => exact ⟨rfl, rfl⟩
    case round =>
      obtain ⟨rfl, rfl⟩ := hrel
      have HX := Lib.hid (awake_any wr HT.out)
      go_wp2_with fail
      refine (HX.out).mono ?_
      rintro e w4 ⟨rfl, hb⟩
      clear HX
      replace HR := Lib.hid (HR.out.step hb)
      replace H1 := Lib.hid (H1.out.step hb)
      replace HB := Lib.hid (HB.out.trans (hb.mono HB.out.size))
      replace HT := Lib.hid (HT.out.below hb)
      clear hb
      go_wp2
      go_ret
      exact ⟨rfl, HB.out⟩
  · have hz0 : (((reachV l frm &&& s : Nat) : Int) != 0) = true := by rw [bne_iff_ne]; omega
    clear hz
    have hl1 : ((p.length : Int) == 1) = false := by rw [beq_eq_false_iff_ne]; omega
    have hl2 : decide ((m : Int) + 1 < (p.length : Int)) = false := by simp; omega
    have hl3 : ((p.length : Int) == 0) = false := by rw [beq_eq_false_iff_ne]; omega
    have HPN := Lib.hid hpn
    have HPR := Lib.hid hpr
    have HPF := Lib.hid hpf
    have HPS := Lib.hid hps
    clear hpn hpr hpf hps
    generalize reachV l frm &&& s = t at *
    generalize reachV l frm = rv at *
    go_wp2_with fail
    refine (HRC.out).mono ?_
    rintro e w23 ⟨rfl, hb⟩
    clear HRC
    replace HR := Lib.hid (HR.out.step hb)
    replace H1 := Lib.hid (H1.out.step hb)
    replace HB := Lib.hid (HB.out.trans (hb.mono HB.out.size))
    replace HT := Lib.hid (HT.out.below hb)
    clear hb
    go_wp2
    go_loopw [8] (fun i wr => ∃ k : Nat, k ≤ p.length ∧ i = .int .i64 k ∧ Hid (Reads wr wr.heap.size 1 A m (us l) ∧ Reads wr wr.heap.size 1 A1 p.length (iv p) ∧ Below w.heap.size w wr ∧ Tab wr)) (fun i _ => p.length - (intOf i).toNat)
    case atStart => exact ⟨0, Nat.zero_le _, rfl, Lib.hid ⟨HR.out, H1.out, HB.out, HT.out⟩⟩
    case round =>
      clear HR H1 HB HT
      obtain ⟨k, hk, rfl, HI⟩ := hrel
      by_cases hlt : k < p.length
      · obtain ⟨ad, hA1, hc⟩ := iv_cell HI.out.2.1 hlt
        subst hA1
        have hx := HPN.out k hlt
        by_cases hk0 : k = 0
        · subst hk0
          have hc' : wr.cell? ad = some (.int .i64 ((p.getD 0 0 : Nat) : Int)) := by have := hc; unfold Addr.add at this; rw [if_pos rfl] at this; exact this
          generalize p.getD 0 0 = x at *
          have hg1 : decide ((x : Int) < 0) = false := by simp
          have hg2 : decide ((m : Int) ≤ (x : Int)) = false := by simp; omega
          have hg2' : ((x : Int) < (m : Int)) := by omega
          have hg2n : decide (m ≤ x) = false := by simp; omega
          go_wp2
          go_quiet (fail)
          go_wp2
          go_roundw
          case rel => exact ⟨1, by omega, by go_num, Lib.hid ⟨HI.out.1.drewN _, HI.out.2.1.drewN _, below_drewN HI.out.2.2.1 _, HI.out.2.2.2.below (below_drewN (Below.refl _ _) _)⟩⟩
          case measure => simp [intOf]; omega
        · obtain ⟨M, hkM⟩ : ∃ M, k = M + 1 := ⟨k - 1, by omega⟩
          obtain ⟨_, hA1, hcM⟩ := iv_cell HI.out.2.1 (show M < p.length by omega)
          cases hA1
          have hy := HPN.out M (by omega)
          obtain ⟨ad3, rfl, _, hcr⟩ := HI.out.1.word_k hy
          have hpr := HPR.out M (by omega)
          rw [← hkM] at hpr
          have hsh := bit_one (words_getD HW.out (p.getD M 0)) hpr
          have hkJ : (k : Int) - 1 = (M : Int) := by omega
          have HKM := Lib.hid hkM
          clear hkM hk0 hpr
          generalize l.getD (p.getD M 0) 0 = rw' at *
          generalize p.getD M 0 = y at *
          generalize p.getD k 0 = x at *
          have hg1 : decide ((x : Int) < 0) = false := by simp
          have hg2 : decide ((m : Int) ≤ (x : Int)) = false := by simp; omega
          have hg2' : ((x : Int) < (m : Int)) := by omega
          have hg2n : decide (m ≤ x) = false := by simp; omega
          have hg3 : decide ((0 : Int) < (k : Int)) = true := by simp; have := HKM.out; omega
          have hg4 : (0 : Int) < (k : Int) := by have := HKM.out; omega
          have hg5 : decide (0 < k) = true := by simp; have := HKM.out; omega
          go_wp2
          go_quiet (fail)
          go_wp2
          go_roundw
          case rel => exact ⟨k + 1, by omega, by go_num, Lib.hid ⟨HI.out.1.drewN _, HI.out.2.1.drewN _, below_drewN HI.out.2.2.1 _, HI.out.2.2.2.below (below_drewN (Below.refl _ _) _)⟩⟩
          case measure => simp [intOf]; omega
      · obtain ⟨ad, hA1, hc⟩ := iv_cell HI.out.2.1 (show 0 < p.length by omega)
        subst hA1
        have hc' : wr.cell? ad = some (.int .i64 ((p.getD 0 0 : Nat) : Int)) := by have := hc; unfold Addr.add at this; rw [if_pos rfl] at this; exact this
        obtain ⟨M, hM⟩ : ∃ M, p.length = M + 1 := ⟨p.length - 1, by omega⟩
        obtain ⟨_, hA1, hcM⟩ := iv_cell HI.out.2.1 (show M < p.length by omega)
        cases hA1
        have hx := HPN.out 0 (by omega)
        have hy := HPN.out M (by omega)
        have hf1 := bit_one HF.out HPF.out
        have hps := HPS.out
        rw [show p.length - 1 = M from by omega] at hps
        have hs1 := bit_one HSS.out hps
        have hkJ : (p.length : Int) - 1 = (M : Int) := by omega
        have hM2 : M < p.length := by omega
        have HB := Lib.hid HI.out.2.2.1
        have HX := Lib.hid (awake_any wr HI.out.2.2.2)
        clear hM HI hps
        generalize p.getD 0 0 = x at *
        generalize p.getD M 0 = y at *
        go_wp2_with fail
        refine (HX.out).mono ?_
        rintro e w99 ⟨rfl, hb⟩
        replace HB := Lib.hid (HB.out.trans (hb.mono HB.out.size))
        clear HX hb
        go_wp2
        go_ret
        exact ⟨rfl, HB.out⟩
set_option maxRecDepth 100000 in
theorem contract (H : Type) (enc : TypeId × Value → H) (W : World) (base : Nat) (args : Array Value) (ds gs : List (DataW H)) (before : List MemPlace)
    (hval : ∀ (j : Nat) t v, Tryd.f8.params[j]? = some t → args[j]? = some v → Value.okWide Tryd.prog W .any base t v)
    (hW : DataW.Whole enc Tryd.prog Tryd.f8.params.toList Rows.relationStepsSpec.vars false W args.toList ds gs before) (hE : Tab W) :
    Calls Tryd.prog 8 args W fun e W' => ∃ v, e = .returned v ∧ Rows.relationStepsSpec.post enc Tryd.prog Tryd.f8 false true false false W args v W' := by
  have hW' := hW
  obtain ⟨p, q, hA0, hV, rfl, hfz, hnd⟩ := hW
  have hA : DataW.TrodAll enc Tryd.prog W 0 (fun _ => true) true Tryd.f8.params.toList args.toList ds p := hA0
  rw [Tryd.params8] at hA hval
  obtain ⟨v0, vs0, d0, ds0, p0, q0, hargs, rfl, rfl, h0, r0⟩ := trodAll_cons hA
  obtain ⟨v1, vs1, d1, ds1, p1, q1, rfl, rfl, rfl, h1, r1⟩ := trodAll_cons r0
  obtain ⟨v2, vs2, d2, ds2, p2, q2, rfl, rfl, rfl, h2, r2⟩ := trodAll_cons r1
  obtain ⟨rfl, rfl, rfl⟩ := trodAll_nil r2
  obtain rfl : args = #[v0, v1, v2] := by cases args; simp_all
  obtain ⟨rfl, rfl⟩ := trodVars_none hV
  obtain ⟨A0, n0, c0, rfl⟩ := okWide_slice Tryd.underlying22 (hval 0 22 v0 rfl rfl)
  have k0 := h0
  have lt0 : ∀ x ∈ p0, x.block < W.heap.size := by obtain ⟨m, hm⟩ := k0; exact DataW.trod_lt m _ _ _ hm
  obtain ⟨z0, w0⟩ : ∃ zs, IsRow .u64 W A0 n0 c0 zs := by
    obtain ⟨fuel, hf⟩ := h0
    rcases open_ints Tryd.underlying22 Tryd.underlying34 (by kernel_rfl) hf with ⟨hcs, _⟩ | ⟨x, l, c, zs, hcs, _, hl, hm, hz, _, hcell, hwz⟩
    · simp [Value.cells] at hcs
      obtain ⟨rfl, rfl, rfl⟩ := hcs
      exact ⟨[], .inl ⟨rfl, rfl, rfl, rfl⟩⟩
    · simp [Value.cells] at hcs
      obtain ⟨rfl, rfl, rfl⟩ := hcs
      exact ⟨zs, .inr ⟨_, rfl, hl, hm, by simpa using hz, hcell, hwz⟩⟩
  obtain ⟨a1, rfl, rfl, rfl, w1⟩ := open_int Tryd.underlying34 (hval 1 34 v1 rfl rfl) h1
  obtain ⟨a2, rfl, rfl, rfl, w2⟩ := open_int Tryd.underlying34 (hval 2 34 v2 rfl rfl) h2
  clear hA0
  obtain ⟨l0, hR0, hw0, hm0, hN0⟩ := w0.words
  have b1 := bounds_u64 w1
  obtain ⟨s1, rfl⟩ := Int.eq_ofNat_of_zero_le b1.1
  have b2 := bounds_u64 w2
  obtain ⟨s2, rfl⟩ := Int.eq_ofNat_of_zero_le b2.1
  have hwalk : Calls Tryd.prog 8 #[.slice A0 n0 c0, .int .u64 s1, .int .u64 s2] W fun e w' => e = .returned (.bool true) ∧ Below W.heap.size W w' := by
    by_cases h64 : n0 ≤ 64
    · by_cases h0 : relErr n0 l0 = 0
      · exact walk_small l0 A0 n0 c0 s1 s2 W hR0 hw0 h64 (by omega) (by omega) h0 hE
      · exact walk_big2 l0 A0 n0 c0 s1 s2 W hR0 hw0 h64 h0 hE
    · exact walk_big1 A0 n0 c0 s1 s2 W (by omega) hE
  refine hwalk.mono fun e W' ⟨he, hg⟩ => ?_
  subst he
  exact ⟨_, rfl, _, _, _, [], _, [], hW', trodAll_mk1 (shut_bool Tryd.underlying4 _), (trodAll_cons_mk (Below.trod laidOut (by kernel_rfl) (of_decide_eq_true (by kernel_rfl)) k0 hg lt0) (trodAll_cons_mk (shut_int Tryd.underlying34 w1) (trodAll_cons_mk (shut_int Tryd.underlying34 w2) trodAll_mk0))), rfl, hg.frame _, fun h => by cases h⟩
theorem reads (os : Os) {H : Type} (enc : TypeId × Value → H) : ∃ places, DataW.whole enc Tryd.prog ((laidW os).forCall (fun _ _ => 0) ⟨#[], #[.slice none 0 0, .int .u64 0, .int .u64 0], []⟩).memory Tryd.f8.params.toList Rows.relationStepsSpec.vars false #[Value.slice none 0 0, Value.int .u64 0, Value.int .u64 0].toList 8 = some ([.nil, .lit (.int .u64 0), .lit (.int .u64 0)], [], places) :=
  ⟨[], by kernel_rfl⟩
set_option maxRecDepth 100000 in
theorem lifted (os : Os) (started : os.Started) (H : Type) (enc : TypeId × Value → H) (F : Stop.Interp) :
    ReturnsInHanded {} Tryd.checked os 8 .any ((OpenSpec.ofChange Rows.relationStepsSpec).preRow enc Tryd.prog Tryd.f8 Rows.relationStepsRow.domain false Rows.relationStepsRow.laid) (((OpenSpec.ofChange Rows.relationStepsSpec).at F).post enc Tryd.prog Tryd.f8 false true false false) := by
  obtain ⟨places, hx⟩ := reads os enc
  refine returnsInHanded_of_row (C := Tryd.checked) (s := OpenSpec.ofChange Rows.relationStepsSpec) own started (by kernel_rfl) Tryd.func8
    (witness_row_at (enc := enc) (C := Tryd.checked) false (laidW os) #[.slice none 0 0, .int .u64 0, .int .u64 0] (laidW_os os) (vars_ok os _) (heap_ok os _) (by kernel_rfl)
      (OpenSpec.preRow_of_cond 8 hx (by kernel_rfl) (fun k hk => by cases hk) (by kernel_rfl) (laid_met os _))) ?_
  intro W base args ds gs before hval hW _ _ _ hL hsh _
  exact contract H enc W base args ds gs before hval hW (env_of hL)
theorem said : Rows.RelationStepsSaid :=
  OpenClaim.holds_of_cond 8 Tryd.f8 rfl rfl rfl rfl rfl rfl rfl ⟨rfl, rfl, rfl, rfl, rfl⟩ rfl rfl rfl rfl rfl (by kernel_rfl) Tryd.func8 (by kernel_rfl)
    (of_decide_eq_true (by kernel_rfl)) (by unfold Func.isWrapper; first | (rw [if_pos (by decide +kernel)]; kernel_rfl) | (rw [if_neg (by decide +kernel)]; exact ⟨rfl, rfl⟩))
    (fun os started H enc _ F => by rw [OpenClaim.pre_eq_preRow]; exact lifted os started H enc F)
theorem plain (f : FuncId) (fn : Func) (hf : Tryd.pinned.checked.prog.funcNamed "witting/wittinglaw02.RelationSteps" = some f) (hfn : Tryd.pinned.checked.prog.funcs[f]? = some fn) :
    false = Tryd.pinned.checked.prog.looks [] ∧ ∀ (j : Nat) t, fn.params[j]? = some t → Tryd.pinned.checked.prog.wantsStandIn t = false := by
  obtain rfl : f = 8 := Option.some.inj ((show Tryd.prog.funcNamed "witting/wittinglaw02.RelationSteps" = some 8 by kernel_rfl).symm.trans hf) |>.symm
  obtain rfl : fn = Tryd.f8 := (Option.some.inj (Tryd.func8.symm.trans hfn)).symm
  refine ⟨no_looks, fun j t ht => ?_⟩
  rw [Tryd.params8] at ht
  have hm : t ∈ [22, 34, 34] := by simpa using Array.mem_of_getElem? ht
  have hall : ([22, 34, 34].all fun u => !Tryd.prog.wantsStandIn u) = true := by kernel_rfl
  exact (show Tryd.prog.wantsStandIn t = false by simpa using List.all_eq_true.1 hall t hm)
theorem card : Rows.RelationStepsCardSaid :=
  Claim7.holds_tied_plain_at .later [] _ _ _ _ said (fun _ h => by cases h) (by kernel_rfl) (fun _ h => by cases h) relationSteps_row_tie rfl ⟨rfl, rfl⟩ (by kernel_rfl) rfl plain (by kernel_rfl)
#print axioms card
end Go.Proofs.YtogjbghieoifjaaDoor.relationSteps
