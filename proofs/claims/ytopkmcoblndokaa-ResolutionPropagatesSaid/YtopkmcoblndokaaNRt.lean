/- Layer 10: the reference's literals, clauses, Has. -/
import Derived.Test.YtopkmcoblndokaaNRr
namespace Go.Proofs.Ytopkmcoblndokaa
open Go.RowKit Go.Proofs.Ws
set_option maxRecDepth 100000
theorem rLit_any (n x : Int) (w : World) (h0 : 0 ≤ n) (h1 : n ≤ 12) :
    Calls Try.prog 38 #[.int .i64 x, .int .i64 n] w fun e w' => e = .returned (.bool (litB n x)) ∧ w = w' := by
  by_cases ha : x = 0
  · have HV : Hid (litB n x = false) := Lib.hid (by unfold litB; simp [ha])
    have q1 : (x != 0) = false := by simp [ha]
    clear ha
    go_enter Try.func38, Try.ntmps38
    go_wp2
    go_ret
    exact ⟨ret_bool HV.out.symm, rfl⟩
  · have q1 : (x != 0) = true := by simp [ha]
    by_cases hb : -n ≤ x
    · have q2 : decide (-n ≤ x) = true := decide_eq_true hb
      by_cases hc : x ≤ n
      · have q3 : decide (x ≤ n) = true := decide_eq_true hc
        have HV : Hid (litB n x = true) := Lib.hid (by unfold litB; exact decide_eq_true ⟨ha, hb, hc⟩)
        clear ha hb hc
        go_enter Try.func38, Try.ntmps38
        go_wp2
        go_ret
        exact ⟨ret_bool HV.out.symm, rfl⟩
      · have q3 : decide (x ≤ n) = false := decide_eq_false hc
        have HV : Hid (litB n x = false) := Lib.hid (by unfold litB; exact decide_eq_false (fun h => hc h.2.2))
        clear ha hb hc
        go_enter Try.func38, Try.ntmps38
        go_wp2
        go_ret
        exact ⟨ret_bool HV.out.symm, rfl⟩
    · have q2 : decide (-n ≤ x) = false := decide_eq_false hb
      have HV : Hid (litB n x = false) := Lib.hid (by unfold litB; exact decide_eq_false (fun h => hb h.2.1))
      clear ha hb
      go_enter Try.func38, Try.ntmps38
      go_wp2
      go_ret
      exact ⟨ret_bool HV.out.symm, rfl⟩
theorem rVar_any (x : Int) (w : World) (h0 : -100 ≤ x) (h1 : x ≤ 100) :
    Calls Try.prog 41 #[.int .i64 x] w fun e w' => e = .returned (.int .i64 (varI x)) ∧ w = w' := by
  by_cases h : x < 0
  · have HV : Hid (varI x = -x - 1) := Lib.hid (by unfold varI; omega)
    have q1 : decide (x < 0) = true := decide_eq_true h
    have p1 : IntKind.i64.wrap (-x) = -x := by simp [IntKind.wrap, IntKind.bits, IntKind.signed]; omega
    have p2 : IntKind.i64.wrap (-x - 1) = -x - 1 := by simp [IntKind.wrap, IntKind.bits, IntKind.signed]; omega
    generalize varI x = m at *
    clear h
    go_enter Try.func41, Try.ntmps41
    go_wp2
    go_ret
    exact ⟨ret_i64 HV.out.symm, rfl⟩
  · have HV : Hid (varI x = x - 1) := Lib.hid (by unfold varI; omega)
    have q1 : decide (x < 0) = false := decide_eq_false h
    have p2 : IntKind.i64.wrap (x - 1) = x - 1 := by simp [IntKind.wrap, IntKind.bits, IntKind.signed]; omega
    generalize varI x = m at *
    clear h
    go_enter Try.func41, Try.ntmps41
    go_wp2
    go_ret
    exact ⟨ret_i64 HV.out.symm, rfl⟩
set_option maxHeartbeats 2000000 in
theorem rHas_any (c : List Int) (x : Int) (A : Option Addr) (k cap B : Nat) (w : World) (hR : Reads w B 1 A k (ints c)) (hk : k ≤ maxLen) :
    Calls Try.prog 51 #[.slice A k cap, .int .i64 x] w fun e w' => e = .returned (.bool (decide (x ∈ c))) ∧ w = w' := by
  unfold maxLen at hk
  have HL := Lib.hid hR.int_len
  have HR := Lib.hid hR
  have HI0 : Hid (decide (x ∈ c) = decide (x ∈ c.drop 0)) := Lib.hid rfl
  clear hR
  generalize decide (x ∈ c) = fb at *
  go_enter Try.func51, Try.ntmps51
  go_wp2
  go_loopw [5] (fun i wr => ∃ j : Nat, j ≤ k ∧ i = .int .i64 j ∧ Hid (fb = decide (x ∈ c.drop j)) ∧ w = wr) (fun i _ => k - (intOf i).toNat)
  case atStart => exact ⟨0, Nat.zero_le _, rfl, HI0, by first | rfl | trivial⟩
  case round =>
    obtain ⟨j, hj, rfl, HI, rfl⟩ := hrel
    by_cases hlt : j < k
    · obtain ⟨ad, rfl, _, hcj⟩ := HR.out.int_at hlt
      have HD := Lib.hid (drop_getD c j (by have := HL.out; omega))
      generalize c.getD j 0 = y at *
      by_cases hyx : y = x
      · have HE : Hid (fb = true) := Lib.hid (by rw [HI.out, HD.out, hyx]; exact decide_eq_true (List.mem_cons_self ..))
        have q1 : (y == x) = true := by simp [hyx]
        clear HI HD hyx
        go_wp2
        go_ret
        exact ⟨ret_bool HE.out.symm, rfl⟩
      · have HI2 : Hid (fb = decide (x ∈ c.drop (j + 1))) := Lib.hid (by rw [HI.out, HD.out]; exact decide_eq_decide.2 (by simp [List.mem_cons, Ne.symm hyx]))
        have q1 : (y == x) = false := by simp [hyx]
        clear HI HD hyx
        go_wp2
        go_roundw
        case rel => exact ⟨j + 1, by omega, by go_num, HI2, by first | rfl | trivial⟩
        case measure => first | (simp [intOf]; done) | (simp [intOf]; omega)
    · have HE : Hid (fb = false) := Lib.hid (by rw [HI.out, List.drop_eq_nil_of_le (by have := HL.out; omega)]; rfl)
      go_wp2
      go_ret
      exact ⟨ret_bool HE.out.symm, rfl⟩
def rstG (n b : Int) (cs : List Int) (R : Int) : Int := if clGo n b cs = 0 then R else clGo n b cs
theorem rst_nil (n b R : Int) : rstG n b [] R = R := rfl
theorem rst_two {n b x R : Int} {cs : List Int} (h : litB n x = false) : rstG n b (x :: cs) R = 2 := by unfold rstG clGo; rw [h]; rfl
theorem rst_nine {n b x R : Int} {cs : List Int} (h : litB n x = true) (h2 : varI x ≤ b) : rstG n b (x :: cs) R = 9 := by unfold rstG clGo; rw [h, if_pos rfl, if_pos h2]; rfl
theorem rst_next {n b x R : Int} {cs : List Int} (h : litB n x = true) (h2 : ¬ varI x ≤ b) : rstG n b (x :: cs) R = rstG n (varI x) cs R := by unfold rstG; rw [show clGo n b (x :: cs) = clGo n (varI x) cs from by rw [clGo, if_pos h, if_neg h2]]
theorem rst_list (n : Int) (c : List Int) (l : List (List Int)) : lsGo n (c :: l) = rstG n (-1) c (lsGo n l) := rfl
set_option maxHeartbeats 8000000 in
theorem rCheck_any (n : Int) (l : List (List Int)) (A : Option Addr) (k cap B : Nat) (w : World) (hB : B ≤ w.heap.size) (hR : ZsR w B A k l) (hk : k ≤ maxLen) :
    Calls Try.prog 15 #[.int .i64 n, .slice A k cap] w fun e w' => e = .returned (.int .i64 (chkR n l)) ∧ Below w.heap.size w w' := by
  have hl := hR.len
  unfold maxLen at hk
  by_cases h0 : n < 0
  · have HV : Hid (chkR n l = 2) := Lib.hid (by unfold chkR; rw [if_pos (.inl h0)])
    have q1 : decide (n < 0) = true := decide_eq_true h0
    clear h0 hl hR
    go_enter Try.func15, Try.ntmps15
    go_wp2
    go_ret
    exact ⟨ret_i64 HV.out.symm, Below.refl _ _⟩
  · have q1 : decide (n < 0) = false := decide_eq_false h0
    by_cases h12 : 12 < n
    · have HV : Hid (chkR n l = 2) := Lib.hid (by unfold chkR; rw [if_pos (.inr h12)])
      have q2 : decide (12 < n) = true := decide_eq_true h12
      clear h0 h12 hl hR
      go_enter Try.func15, Try.ntmps15
      go_wp2
      go_ret
      exact ⟨ret_i64 HV.out.symm, Below.refl _ _⟩
    · have q2 : decide (12 < n) = false := decide_eq_false h12
      by_cases h64 : 64 < k
      · have HV : Hid (chkR n l = 8) := Lib.hid (by unfold chkR; rw [if_neg (by omega), if_pos (by omega)])
        have q3 : decide ((64 : Int) < (k : Int)) = true := decide_eq_true (by omega)
        have q4 : decide (64 < k) = true := decide_eq_true (by omega)
        clear h0 h12 h64 hl hR
        go_enter Try.func15, Try.ntmps15
        go_wp2
        go_ret
        exact ⟨ret_i64 HV.out.symm, Below.refl _ _⟩
      · have HV : Hid (chkR n l = lsGo n (l.drop 0)) := Lib.hid (by unfold chkR; rw [if_neg (by omega), if_neg (by omega)]; rfl)
        have q3 : decide ((64 : Int) < (k : Int)) = false := decide_eq_false (by omega)
        have q4 : decide (64 < k) = false := decide_eq_false (by omega)
        have HLI := Lib.hid (fun x W => rLit_any n x W (by omega) (by omega))
        have HVA := Lib.hid rVar_any
        have HN : Hid (0 ≤ n ∧ n ≤ 12) := Lib.hid ⟨by omega, by omega⟩
        have HR := Lib.hid hR
        have HL := Lib.hid hl
        generalize chkR n l = E at *
        clear h0 h12 hl hR
        go_enter Try.func15, Try.ntmps15
        go_wp2
        go_loopw [5] (fun i wr => ∃ j : Nat, j ≤ k ∧ i = .int .i64 j ∧ Hid (E = lsGo n (l.drop j)) ∧ Hid (Below w.heap.size w wr)) (fun i _ => k - (intOf i).toNat)
        case atStart => exact ⟨0, Nat.zero_le _, rfl, HV, Lib.hid (Below.refl _ _)⟩
        case round =>
          obtain ⟨j, hj, rfl, HI, HO⟩ := hrel
          by_cases hlt : j < k
          · have HD := Lib.hid (dropZ l j (by have := HL.out; omega))
            have HI2 : Hid (E = rstG n (-1) ((l.getD j []).drop 0) (lsGo n (l.drop (j + 1)))) := Lib.hid (by rw [HI.out, HD.out, rst_list]; rfl)
            obtain ⟨ad, Aj, cj, rfl, hadb, hcell, hrd, hlj⟩ := HR.out.at_ hlt
            have HC : Hid (∀ W, Below w.heap.size w W → W.cell? (ad.add j) = some (.slice Aj (l.getD j []).length cj)) := Lib.hid (fun W hw => (hw.cell (p := ad.add j) (by rw [block_of_add]; omega)).trans hcell)
            have HRD := Lib.hid hrd
            generalize l.getD j [] = c at *
            obtain ⟨R, HRR⟩ : ∃ R, Hid (lsGo n (l.drop (j + 1)) = R) := ⟨_, Lib.hid rfl⟩
            rw [HRR.out] at HI2
            obtain ⟨nc, HNC⟩ : ∃ nc, Hid (c.length = nc) := ⟨_, Lib.hid rfl⟩
            rw [HNC.out] at hlj HC HRD
            unfold maxLen at hlj
            clear hcell hrd HD HI
            go_wp2
            go_loopw [6] (fun i wr2 => ∃ (m : Nat) (b : Int), m ≤ nc ∧ i = .int .i64 m ∧ Hid (E = rstG n b (c.drop m) R) ∧ Hid (m = 0 ∧ b = -1 ∨ 0 < m ∧ b = varI (c.getD (m - 1) 0) ∧ -12 ≤ c.getD (m - 1) 0 ∧ c.getD (m - 1) 0 ≤ 12) ∧ Hid (Below w.heap.size w wr2)) (fun i _ => nc - (intOf i).toNat)
            case atStart => exact ⟨0, -1, Nat.zero_le _, rfl, HI2, Lib.hid (.inl ⟨rfl, rfl⟩), HO⟩
            case round =>
              obtain ⟨m, b, hm, rfl, HI5, HBV, HO5⟩ := hrel
              have hc1 := HC.out _ HO5.out
              by_cases hltm : m < nc
              · have HD2 := Lib.hid (drop_getD c m (by have := HNC.out; omega))
                obtain ⟨ad2, rfl, had2, hcm⟩ := HRD.out.int_at hltm
                have hcm2 := (HO5.out.cell (p := ad2.add m) (by rw [block_of_add]; omega)).trans hcm
                by_cases hlit : litB n (c.getD m 0) = true
                · have hbd := litB_bound HN.out.2 hlit
                  have hb5 := HBV.out
                  obtain ⟨x, HXX⟩ : ∃ x, Hid (c.getD m 0 = x) := ⟨_, Lib.hid rfl⟩
                  rw [HXX.out] at hcm hcm2 hlit hbd HD2
                  have HLX := Lib.hid (HLI.out x)
                  rw [hlit] at HLX
                  have hv0 : 0 ≤ varI x := by unfold varI; omega
                  rcases hb5 with ⟨hm0, rfl⟩ | ⟨hpos, rfl, hy1, hy2⟩
                  · have HI6 : Hid (E = rstG n (varI x) (c.drop (m + 1)) R) := Lib.hid (by rw [HI5.out, HD2.out]; exact rst_next hlit (by omega))
                    have HBV2 : Hid (m + 1 = 0 ∧ varI x = -1 ∨ 0 < m + 1 ∧ varI x = varI (c.getD (m + 1 - 1) 0) ∧ -12 ≤ c.getD (m + 1 - 1) 0 ∧ c.getD (m + 1 - 1) 0 ≤ 12) := Lib.hid (.inr ⟨by omega, by rw [show m + 1 - 1 = m from rfl, HXX.out], by rw [show m + 1 - 1 = m from rfl, HXX.out]; omega⟩)
                    have p2 : decide ((0 : Int) < (m : Int)) = false := decide_eq_false (by omega)
                    have p3 : decide (0 < m) = false := decide_eq_false (by omega)
                    clear hlit HD2 HI5 HBV hv0 hcm hm0
                    go_wp2_with fail
                    refine (HLX.out _).mono ?_
                    rintro e w2 ⟨rfl, rfl⟩
                    go_wp2
                    go_quiet (first | (go_at_call 41; exact quiet_same (HVA.out _ _ (by omega) (by omega))))
                    go_wp2
                    go_roundw
                    case rel => exact ⟨m + 1, varI x, by omega, by go_num, HI6, HBV2, Lib.hid (below_drewN HO5.out _)⟩
                    case measure => first | (simp [intOf]; done) | (simp [intOf]; omega)
                  · have hcy := (HO5.out.cell (p := ad2.add (m - 1)) (by rw [block_of_add]; omega)).trans (show w.cell? (ad2.add (m - 1)) = some (.int .i64 (c.getD (m - 1) 0)) by
                      obtain ⟨ad3, e3, _, h3⟩ := HRD.out.int_at (show m - 1 < nc by omega)
                      injection e3 with e3; subst e3; exact h3)
                    have p1 : IntKind.i64.wrap ((m : Int) - 1) = ((m - 1 : Nat) : Int) := by simp [IntKind.wrap, IntKind.bits, IntKind.signed]; omega
                    have p2 : decide ((0 : Int) < (m : Int)) = true := decide_eq_true (by omega)
                    have p3 : decide (0 < m) = true := decide_eq_true hpos
                    have HBV2 : Hid (m + 1 = 0 ∧ varI x = -1 ∨ 0 < m + 1 ∧ varI x = varI (c.getD (m + 1 - 1) 0) ∧ -12 ≤ c.getD (m + 1 - 1) 0 ∧ c.getD (m + 1 - 1) 0 ≤ 12) := Lib.hid (.inr ⟨by omega, by rw [show m + 1 - 1 = m from rfl, HXX.out], by rw [show m + 1 - 1 = m from rfl, HXX.out]; omega⟩)
                    generalize c.getD (m - 1) 0 = y at *
                    have hm1 : m - 1 < nc := by omega
                    generalize hmm : m - 1 = m1 at *
                    clear hcm hmm
                    by_cases hle : varI x ≤ varI y
                    · have HE : Hid (E = 9) := Lib.hid (by rw [HI5.out, HD2.out]; exact rst_nine hlit hle)
                      have q6 : decide (varI x ≤ varI y) = true := decide_eq_true hle
                      clear hlit HD2 HI5 HBV hle HBV2
                      go_wp2_with fail
                      refine (HLX.out _).mono ?_
                      rintro e w2 ⟨rfl, rfl⟩
                      go_wp2
                      go_quiet (first | (go_at_call 41; exact quiet_same (HVA.out _ _ (by omega) (by omega))))
                      go_wp2
                      go_ret
                      exact ⟨ret_i64 HE.out.symm, below_drewN HO5.out _⟩
                    · have HI6 : Hid (E = rstG n (varI x) (c.drop (m + 1)) R) := Lib.hid (by rw [HI5.out, HD2.out]; exact rst_next hlit hle)
                      have q6 : decide (varI x ≤ varI y) = false := decide_eq_false hle
                      clear hlit HD2 HI5 HBV hle
                      go_wp2_with fail
                      refine (HLX.out _).mono ?_
                      rintro e w2 ⟨rfl, rfl⟩
                      go_wp2
                      go_quiet (first | (go_at_call 41; exact quiet_same (HVA.out _ _ (by omega) (by omega))))
                      go_wp2
                      go_roundw
                      case rel => exact ⟨m + 1, varI x, by omega, by go_num, HI6, HBV2, Lib.hid (below_drewN HO5.out _)⟩
                      case measure => first | (simp [intOf]; done) | (simp [intOf]; omega)
                · have HE : Hid (E = 2) := Lib.hid (by rw [HI5.out, HD2.out]; exact rst_two (Bool.eq_false_iff.2 hlit))
                  have HLX := Lib.hid (HLI.out (c.getD m 0))
                  rw [Bool.eq_false_iff.2 hlit] at HLX
                  generalize c.getD m 0 = x at *
                  clear hlit HD2 HI5 HBV hcm
                  go_wp2_with fail
                  refine (HLX.out _).mono ?_
                  rintro e w2 ⟨rfl, rfl⟩
                  go_wp2
                  go_ret
                  exact ⟨ret_i64 HE.out.symm, HO5.out⟩
              · have HI6 : Hid (E = lsGo n (l.drop (j + 1))) := Lib.hid (by rw [HI5.out, List.drop_eq_nil_of_le (by have := HNC.out; omega), rst_nil, HRR.out])
                go_wp2
                go_roundw
                case rel => exact ⟨j + 1, by omega, by go_num, HI6, HO5⟩
                case measure => first | (simp [intOf]; done) | (simp [intOf]; omega)
          · have HE : Hid (E = 0) := Lib.hid (by rw [HI.out, List.drop_eq_nil_of_le (by have := HL.out; omega)]; rfl)
            go_wp2
            go_ret
            exact ⟨ret_i64 HE.out.symm, HO.out⟩
end Go.Proofs.Ytopkmcoblndokaa
