/- Layer 10: the reference's makes, satisfies. -/
import Derived.Test.YtopkmcoblndokaaNRu
namespace Go.Proofs.Ytopkmcoblndokaa
open Go.RowKit Go.Proofs.Ws
set_option maxRecDepth 100000
theorem bit_tmod (t v : Nat) : ((((t : Int) / 2 ^ v).tmod 2) == 1) = t.testBit v := by
  have e : (t : Int) / 2 ^ v = ((t / 2 ^ v : Nat) : Int) := by push_cast; rfl
  rw [e, Nat.testBit_eq_decide_div_mod_eq, Int.tmod_eq_emod_of_nonneg (Int.natCast_nonneg _)]
  generalize t / 2 ^ v = z at *
  have : z % 2 = 0 ∨ z % 2 = 1 := by omega
  rcases this with h | h
  · rw [h, show ((z : Int) % 2) = 0 from by omega]; rfl
  · rw [h, show ((z : Int) % 2) = 1 from by omega]; rfl
theorem rMakes_any (V : Nat) (x : Int) (w : World) (_hV : V < 4096) (hx0 : x ≠ 0) (h0 : -12 ≤ x) (h1 : x ≤ 12) :
    Calls Try.prog 64 #[.int .i64 (V : Int), .int .i64 x] w fun e w' => e = .returned (.bool (litT V x)) ∧ w = w' := by
  have HVAR := Lib.hid (fun W => rVar_any x W (by omega) (by omega))
  rw [varI_var hx0] at HVAR
  have hj : varOf x ≤ 11 := by unfold varOf; omega
  have HT : Hid ((((((V : Int) / 2 ^ (varOf x)).tmod 2) == 1) == decide (0 < x)) = litT V x) := Lib.hid (by rw [bit_tmod]; rfl)
  generalize varOf x = j at *
  generalize litT V x = b at *
  clear hx0
  go_enter Try.func64, Try.ntmps64
  go_wp2_with fail
  refine (HVAR.out _).mono ?_
  rintro e w2 ⟨rfl, rfl⟩
  go_wp2
  go_ret
  exact ⟨ret_bool HT.out, rfl⟩
set_option maxHeartbeats 4000000 in
theorem rSat_any (V : Nat) (l : List (List Int)) (A : Option Addr) (k cap B : Nat) (w : World) (hV : V < 4096) (hS : Small l) (hR : ZsR w B A k l) (hk : k ≤ 1000000) :
    Calls Try.prog 43 #[.slice A k cap, .int .i64 (V : Int)] w fun e w' => e = .returned (.bool (satB V l)) ∧ w = w' := by
  have HL := Lib.hid hR.len
  have HR := Lib.hid hR
  have HS := Lib.hid hS
  have HMK := Lib.hid (fun x W (hx : x ≠ 0 ∧ -12 ≤ x ∧ x ≤ 12) => rMakes_any V x W hV hx.1 hx.2.1 hx.2.2)
  have HI0 : Hid (satB V l = satB V (l.drop 0)) := Lib.hid rfl
  generalize satB V l = R at *
  clear hR hS hV
  go_enter Try.func43, Try.ntmps43
  go_wp2
  go_loopw [5] (fun i wr => ∃ j : Nat, j ≤ k ∧ i = .int .i64 j ∧ Hid (R = satB V (l.drop j)) ∧ w = wr) (fun i _ => k - (intOf i).toNat)
  case atStart => exact ⟨0, Nat.zero_le _, rfl, HI0, by first | rfl | trivial⟩
  case round =>
    obtain ⟨j, hj, rfl, HI, rfl⟩ := hrel
    by_cases hlt : j < k
    · have HD := Lib.hid (dropZ l j (by have := HL.out; omega))
      have HI2 : Hid (R = ((l.getD j []).any (litT V) && satB V (l.drop (j + 1)))) := Lib.hid (by rw [HI.out, HD.out]; rfl)
      obtain ⟨ad, Aj, cj, rfl, _, hcell, hrd, _⟩ := HR.out.at_ hlt
      have hsm := HS.out _ (getDZ_mem (l := l) (k := j) (by have := HL.out; omega))
      have HSM := Lib.hid hsm.1
      have hs12 := hsm.2
      generalize l.getD j [] = c at *
      obtain ⟨nc, HNC⟩ : ∃ nc, Hid (c.length = nc) := ⟨_, Lib.hid rfl⟩
      rw [HNC.out] at hcell hrd hs12
      have HRD := Lib.hid hrd
      clear hrd HD HI hsm
      go_wp2
      go_loopw [6, 7] (fun b i wr2 => ∃ (m : Nat) (bb : Bool), m ≤ nc ∧ i = .int .i64 m ∧ b = .bool bb ∧ Hid (c.any (litT V) = (bb || (c.drop m).any (litT V))) ∧ w = wr2) (fun _ i _ => nc - (intOf i).toNat)
      case atStart => exact ⟨0, false, Nat.zero_le _, rfl, rfl, Lib.hid (by rw [Bool.false_or]; rfl), by first | rfl | trivial⟩
      case round =>
        obtain ⟨m, bb, hm, rfl, rfl, HI5, rfl⟩ := hrel
        by_cases hltm : m < nc
        · have HD2 := Lib.hid (drop_getD c m (by have := HNC.out; omega))
          obtain ⟨ad2, rfl, _, hcm⟩ := HRD.out.int_at hltm
          have hx := HSM.out _ (getD_mem0 (l := c) (k := m) (by have := HNC.out; omega))
          have HI6 : Hid ((c.drop m).any (litT V) = (litT V (c.getD m 0) || (c.drop (m + 1)).any (litT V))) := Lib.hid (by rw [HD2.out]; rfl)
          generalize c.getD m 0 = x at *
          have HMX := Lib.hid (HMK.out x w hx)
          generalize litT V x = bx at *
          clear hx HD2
          cases bb with
          | true =>
            go_wp2
            go_roundw
            case rel => exact ⟨m + 1, true, by omega, by go_num, rfl, Lib.hid (by rw [HI5.out]; rfl), by first | rfl | trivial⟩
            case measure => first | (simp [intOf]; done) | (simp [intOf]; omega)
          | false =>
            go_wp2_with fail
            refine HMX.out.mono ?_
            rintro e w2 ⟨rfl, rfl⟩
            go_wp2
            go_roundw
            case rel => exact ⟨m + 1, bx, by omega, by go_num, rfl, Lib.hid (by rw [HI5.out, HI6.out, Bool.false_or]), by first | rfl | trivial⟩
            case measure => first | (simp [intOf]; done) | (simp [intOf]; omega)
        · have hbb : c.any (litT V) = bb := by
            have h1 := HI5.out
            rw [List.drop_eq_nil_of_le (by have := HNC.out; omega), List.any_nil, Bool.or_false] at h1
            exact h1
          cases bb with
          | false =>
            have HE : Hid (R = false) := Lib.hid (by rw [HI2.out, hbb, Bool.false_and])
            clear hbb
            go_wp2
            go_ret
            exact ⟨ret_bool HE.out.symm, rfl⟩
          | true =>
            have HE : Hid (R = satB V (l.drop (j + 1))) := Lib.hid (by rw [HI2.out, hbb, Bool.true_and])
            clear hbb
            go_wp2
            go_roundw
            case rel => exact ⟨j + 1, by omega, by go_num, HE, by first | rfl | trivial⟩
            case measure => first | (simp [intOf]; done) | (simp [intOf]; omega)
    · have HE : Hid (R = true) := Lib.hid (by rw [HI.out, List.drop_eq_nil_of_le (by have := HL.out; omega)]; rfl)
      go_wp2
      go_ret
      exact ⟨ret_bool HE.out.symm, rfl⟩
set_option maxHeartbeats 2000000 in
theorem rModels_any (n : Int) (l : List (List Int)) (A : Option Addr) (k cap : Nat) (w : World) (hR : ZsR w w.heap.size A k l) (hk : k ≤ maxLen) :
    Calls Try.prog 21 #[.int .i64 n, .slice A k cap] w (GivesII (modV n l) (chkR n l) w) := by
  have HC := Lib.hid (rCheck_any n l A k cap w.heap.size w (Nat.le_refl _) hR hk)
  have hl := hR.len
  by_cases hz : chkR n l = 0
  · obtain ⟨m, rfl, hm, hln, hcl⟩ := chkR_ok hz
    obtain ⟨P, hP⟩ : ∃ P : Nat, 2 ^ m = P := ⟨_, rfl⟩
    have HV : Hid (modV (m : Int) l = (cntS l P : Int)) := Lib.hid (by unfold modV; rw [if_pos hz, Int.toNat_natCast, hP])
    obtain ⟨hsh, hPle⟩ := pow_shift hm hP
    have HS := Lib.hid (fun (V : Nat) (W : World) (hV : V < 4096) (hb : Below w.heap.size w W) => rSat_any V l A k cap W.heap.size W hV (small_of hm hcl) (hR.below hb hb.size) (by omega))
    rw [hz] at HC ⊢
    generalize modV (m : Int) l = R at *
    have HSH := Lib.hid hsh
    clear hz hl hR hcl hP hsh
    go_enter Try.func21, Try.ntmps21
    go_wp2_with fail
    refine (HC.out).mono ?_
    rintro e w0 ⟨rfl, hb0⟩
    have HB0 := Lib.hid hb0
    clear hb0
    have hsh := HSH.out
    clear HSH
    go_wp2
    go_loopw [7, 8] (fun cv i wr => ∃ v : Nat, v ≤ P ∧ i = .int .i64 v ∧ cv = .int .i64 (cntS l v : Int) ∧ Hid (Below w.heap.size w wr)) (fun _ i _ => P - (intOf i).toNat)
    case atStart => exact ⟨0, Nat.zero_le _, rfl, rfl, HB0⟩
    case round =>
      obtain ⟨v, hv, rfl, rfl, HO⟩ := hrel
      have hcv := cntS_le l v
      by_cases hlt : v < P
      · have HSV := Lib.hid (HS.out v wr (by omega) HO.out)
        have hsu : cntS l (v + 1) = cntS l v + if satB v l = true then 1 else 0 := rfl
        generalize hc1 : cntS l (v + 1) = c1 at *
        generalize cntS l v = c0 at *
        have HC1 := Lib.hid hc1
        clear hc1
        cases hq : satB v l with
        | true =>
          rw [hq, if_pos rfl] at hsu
          rw [hq] at HSV
          have HSU := Lib.hid hsu
          clear hsu hq
          go_wp2_with fail
          refine (HSV.out).mono ?_
          rintro e w2 ⟨rfl, rfl⟩
          have HO2 := HO
          go_wp2
          go_roundw
          case rel => exact ⟨v + 1, by omega, by go_num, by rw [HC1.out, HSU.out]; go_num, HO2⟩
          case measure => first | (simp [intOf]; done) | (simp [intOf]; omega)
        | false =>
          rw [hq, if_neg (by decide), Nat.add_zero] at hsu
          rw [hq] at HSV
          have HSU := Lib.hid hsu
          clear hsu hq
          go_wp2_with fail
          refine (HSV.out).mono ?_
          rintro e w2 ⟨rfl, rfl⟩
          have HO2 := HO
          go_wp2
          go_roundw
          case rel => exact ⟨v + 1, by omega, by go_num, by rw [HC1.out, HSU.out], HO2⟩
          case measure => first | (simp [intOf]; done) | (simp [intOf]; omega)
      · have hvp : v = P := by omega
        subst hvp
        go_wp2
        go_ret2
        exact ⟨ret_ii HV.out.symm rfl, HO.out⟩
  · have HV : Hid (modV n l = 0) := Lib.hid (by unfold modV; rw [if_neg hz])
    have q1 : (chkR n l != 0) = true := by rw [bne_iff_ne]; exact hz
    generalize modV n l = R at *
    clear hz hl hR
    generalize chkR n l = ee at *
    go_enter Try.func21, Try.ntmps21
    go_wp2_with fail
    refine (HC.out).mono ?_
    rintro e w0 ⟨rfl, hb0⟩
    have HB0 := Lib.hid hb0
    clear hb0
    go_wp2
    go_ret2
    exact ⟨ret_ii HV.out.symm rfl, HB0.out⟩
set_option maxHeartbeats 2000000 in
theorem rSolve_any (n : Int) (l : List (List Int)) (A : Option Addr) (k cap : Nat) (w : World) (hR : ZsR w w.heap.size A k l) (hk : k ≤ maxLen) :
    Calls Try.prog 23 #[.int .i64 n, .slice A k cap] w (GivesII (slvV n l) (slvE n l) w) := by
  have HC := Lib.hid (rCheck_any n l A k cap w.heap.size w (Nat.le_refl _) hR hk)
  have hl := hR.len
  by_cases hz : chkR n l = 0
  · obtain ⟨m, rfl, hm, hln, hcl⟩ := chkR_ok hz
    obtain ⟨P, hP⟩ : ∃ P : Nat, 2 ^ m = P := ⟨_, rfl⟩
    have HV : Hid (slvV (m : Int) l = match slvO l P with | some v => (v : Int) | none => 0) := Lib.hid (by unfold slvV; rw [if_pos hz, Int.toNat_natCast, hP]; rfl)
    have HE : Hid (slvE (m : Int) l = match slvO l P with | some _ => 0 | none => 6) := Lib.hid (by unfold slvE; rw [if_pos hz, Int.toNat_natCast, hP]; rfl)
    obtain ⟨hsh, hPle⟩ := pow_shift hm hP
    have HS := Lib.hid (fun (V : Nat) (W : World) (hV : V < 4096) (hb : Below w.heap.size w W) => rSat_any V l A k cap W.heap.size W hV (small_of hm hcl) (hR.below hb hb.size) (by omega))
    rw [hz] at HC
    generalize slvV (m : Int) l = R at *
    generalize slvE (m : Int) l = R2 at *
    have HSH := Lib.hid hsh
    clear hz hl hR hcl hP hsh
    go_enter Try.func23, Try.ntmps23
    go_wp2_with fail
    refine (HC.out).mono ?_
    rintro e w0 ⟨rfl, hb0⟩
    have HB0 := Lib.hid hb0
    clear hb0
    have hsh := HSH.out
    clear HSH
    go_wp2
    go_loopw [7] (fun i wr => ∃ v : Nat, v ≤ P ∧ i = .int .i64 v ∧ Hid (∀ u, u < v → satB u l = false) ∧ Hid (Below w.heap.size w wr)) (fun i _ => P - (intOf i).toNat)
    case atStart => exact ⟨0, Nat.zero_le _, rfl, Lib.hid (fun u hu => absurd hu (Nat.not_lt_zero _)), HB0⟩
    case round =>
      obtain ⟨v, hv, rfl, HF, HO⟩ := hrel
      by_cases hlt : v < P
      · have HSV := Lib.hid (HS.out v wr (by omega) HO.out)
        cases hq : satB v l with
        | true =>
          rw [hq] at HSV
          have hso := slv_some hlt HF.out hq
          rw [hso] at HV HE
          clear hq hso
          go_wp2_with fail
          refine (HSV.out).mono ?_
          rintro e w2 ⟨rfl, rfl⟩
          have HO2 := HO
          go_wp2
          go_ret2
          exact ⟨ret_ii HV.out.symm HE.out.symm, HO2.out⟩
        | false =>
          rw [hq] at HSV
          have HF2 : Hid (∀ u, u < v + 1 → satB u l = false) := Lib.hid (fun u hu => by
            by_cases e : u = v
            · subst e; exact hq
            · exact HF.out u (by omega))
          clear hq
          go_wp2_with fail
          refine (HSV.out).mono ?_
          rintro e w2 ⟨rfl, rfl⟩
          have HO2 := HO
          go_wp2
          go_roundw
          case rel => exact ⟨v + 1, by omega, by go_num, HF2, HO2⟩
          case measure => first | (simp [intOf]; done) | (simp [intOf]; omega)
      · have hvp : v = P := by omega
        subst hvp
        rw [slv_none HF.out] at HV HE
        go_wp2
        go_ret2
        exact ⟨ret_ii HV.out.symm HE.out.symm, HO.out⟩
  · have HV : Hid (slvV n l = 0) := Lib.hid (by unfold slvV; rw [if_neg hz])
    have HE : Hid (slvE n l = chkR n l) := Lib.hid (by unfold slvE; rw [if_neg hz])
    have q1 : (chkR n l != 0) = true := by rw [bne_iff_ne]; exact hz
    generalize slvV n l = R at *
    generalize slvE n l = R2 at *
    clear hz hl hR
    generalize chkR n l = ee at *
    go_enter Try.func23, Try.ntmps23
    go_wp2_with fail
    refine (HC.out).mono ?_
    rintro e w0 ⟨rfl, hb0⟩
    have HB0 := Lib.hid hb0
    clear hb0
    go_wp2
    go_ret2
    exact ⟨ret_ii HV.out.symm HE.out.symm, HB0.out⟩
set_option maxHeartbeats 2000000 in
theorem rHolds_any (n : Int) (l : List (List Int)) (v : Int) (A : Option Addr) (k cap : Nat) (w : World) (hR : ZsR w w.heap.size A k l) (hk : k ≤ maxLen) :
    Calls Try.prog 19 #[.int .i64 n, .slice A k cap, .int .i64 v] w (GivesBI (holV n l v) (holE n l v) w) := by
  have HC := Lib.hid (rCheck_any n l A k cap w.heap.size w (Nat.le_refl _) hR hk)
  have hl := hR.len
  by_cases hz : chkR n l = 0
  · obtain ⟨m, rfl, hm, hln, hcl⟩ := chkR_ok hz
    obtain ⟨P, hP⟩ : ∃ P : Nat, 2 ^ m = P := ⟨_, rfl⟩
    have HV : Hid (holV (m : Int) l v = (decide (0 ≤ v ∧ v < (P : Int)) && satB v.toNat l)) := Lib.hid (by unfold holV; rw [Int.toNat_natCast, hP]; simp [hz])
    have HE : Hid (holE (m : Int) l v = if 0 ≤ v ∧ v < (P : Int) then 0 else 2) := Lib.hid (by unfold holE; rw [if_pos hz, Int.toNat_natCast, hP])
    obtain ⟨hsh, hPle⟩ := pow_shift hm hP
    rw [hz] at HC
    generalize holV (m : Int) l v = R at *
    generalize holE (m : Int) l v = R2 at *
    by_cases h0 : v < 0
    · have q0 : decide (v < 0) = true := decide_eq_true h0
      have HV2 : Hid (R = false) := Lib.hid (by rw [HV.out, decide_eq_false (by omega)]; rfl)
      have HE2 : Hid (R2 = 2) := Lib.hid (by rw [HE.out, if_neg (by omega)])
      clear hz hl hR hcl hP hsh h0
      go_enter Try.func19, Try.ntmps19
      go_wp2_with fail
      refine (HC.out).mono ?_
      rintro e w0 ⟨rfl, hb0⟩
      have HB0 := Lib.hid hb0
      clear hb0
      go_wp2
      go_ret2
      exact ⟨ret_bi HV2.out.symm HE2.out.symm, HB0.out⟩
    · have q0 : decide (v < 0) = false := decide_eq_false h0
      by_cases h1 : v < (P : Int)
      · obtain ⟨V, rfl⟩ : ∃ V : Nat, v = (V : Int) := ⟨v.toNat, by omega⟩
        have HS := Lib.hid (fun W (hb : Below w.heap.size w W) => rSat_any V l A k cap W.heap.size W (by omega) (small_of hm hcl) (hR.below hb hb.size) (by omega))
        have HV2 : Hid (R = satB V l) := Lib.hid (by rw [HV.out, decide_eq_true ⟨by omega, h1⟩, Int.toNat_natCast]; rfl)
        have HE2 : Hid (R2 = 0) := Lib.hid (by rw [HE.out, if_pos ⟨by omega, h1⟩])
        have q1 : decide (P ≤ V) = false := decide_eq_false (by omega)
        clear hz hl hR hcl hP h0 h1
        go_enter Try.func19, Try.ntmps19
        go_wp2_with fail
        refine (HC.out).mono ?_
        rintro e w0 ⟨rfl, hb0⟩
        have HB0 := Lib.hid hb0
        clear hb0
        go_wp2_with fail
        refine (HS.out _ HB0.out).mono ?_
        rintro e w2 ⟨rfl, rfl⟩
        go_wp2
        go_ret2
        exact ⟨ret_bi HV2.out.symm HE2.out.symm, HB0.out⟩
      · have HV2 : Hid (R = false) := Lib.hid (by rw [HV.out, decide_eq_false (fun h => h1 h.2)]; rfl)
        have HE2 : Hid (R2 = 2) := Lib.hid (by rw [HE.out, if_neg (fun h => h1 h.2)])
        have q1 : decide ((P : Int) ≤ v) = true := decide_eq_true (by omega)
        clear hz hl hR hcl hP h0 h1
        go_enter Try.func19, Try.ntmps19
        go_wp2_with fail
        refine (HC.out).mono ?_
        rintro e w0 ⟨rfl, hb0⟩
        have HB0 := Lib.hid hb0
        clear hb0
        go_wp2
        go_ret2
        exact ⟨ret_bi HV2.out.symm HE2.out.symm, HB0.out⟩
  · have HV : Hid (holV n l v = false) := Lib.hid (by unfold holV; rw [decide_eq_false (fun h => hz h.1)]; rfl)
    have HE : Hid (holE n l v = chkR n l) := Lib.hid (by unfold holE; rw [if_neg hz])
    have q1 : (chkR n l != 0) = true := by rw [bne_iff_ne]; exact hz
    generalize holV n l v = R at *
    generalize holE n l v = R2 at *
    clear hz hl hR
    generalize chkR n l = ee at *
    go_enter Try.func19, Try.ntmps19
    go_wp2_with fail
    refine (HC.out).mono ?_
    rintro e w0 ⟨rfl, hb0⟩
    have HB0 := Lib.hid hb0
    clear hb0
    go_wp2
    go_ret2
    exact ⟨ret_bi HV.out.symm HE.out.symm, HB0.out⟩
end Go.Proofs.Ytopkmcoblndokaa
