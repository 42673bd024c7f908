/- Layer 5: Compact, Sub, Size on both sides, Equal. -/
import Derived.Test.YtcbmncafmofcpaaKv
import Derived.Test.YtcbmncafmofcpaaKw
namespace Go.Proofs.Ytcbmncafmofcpaa
open Go.RowKit Go.Proofs.Ws Go.Maps
theorem NdR_of {n : Nd} {k : Int} (h : nodeErr n k = 0) : NdR n := by
  obtain ⟨h1, h2, h3⟩ := nodeErr_ok h
  have hop : 1 ≤ n.op ∧ n.op ≤ 21 := by
    unfold known at h1
    simp only [Bool.and_eq_true, decide_eq_true_eq] at h1
    exact h1
  unfold formOk at h2
  unfold rangeOk shN shE shG at h3
  simp only [Bool.and_eq_true, Bool.or_eq_true, decide_eq_true_eq, beq_iff_eq] at h2 h3
  obtain ⟨⟨⟨⟨_, _⟩, hi⟩, he⟩, hg⟩ := h2
  obtain ⟨⟨ri, re⟩, rg⟩ := h3
  refine ⟨by omega, ?_, ?_, ?_⟩
  · by_cases a : n.op = 3
    · rw [if_pos a] at ri; omega
    · rw [if_neg a] at ri
      by_cases b : hasAgent n.op = true
      · rw [if_pos b] at ri; omega
      · rw [if_neg b] at ri
        by_cases c : n.op = 17
        · rw [if_pos c] at ri; omega
        · rcases hi with ((h | h) | h) | h
          · exact absurd h a
          · exact absurd h b
          · exact absurd h c
          · omega
  · by_cases c : n.op = 17
    · rw [if_pos c] at re; omega
    · rcases he with h | h
      · exact absurd h c
      · omega
  · by_cases c : hasGroup n.op = true
    · rw [if_pos c] at rg; omega
    · rcases hg with h | h
      · exact absurd h c
      · omega
theorem OkL_of {f : List Nd} (h : fErr f = 0) : OkL f := ⟨(fErr_ok h).1, fErr_ops h, fun i hi => NdR_of ((fErr_ok h).2.2 i hi)⟩
theorem OkL.take {f : List Nd} (h : OkL f) {i : Nat} (hi : i < f.length) : OkL (f.take (i + 1)) := by
  have hl : (f.take (i + 1)).length = i + 1 := by rw [List.length_take]; omega
  refine ⟨by intro e; rw [e] at hl; simp at hl, opsL_take h.ops _, fun j hj => ?_⟩
  rw [take_getD (by omega)]
  exact h.rng j (by omega)
theorem nds_take (f : List Nd) : ∀ k, nds (f.take k) = (nds f).take (k * 6) := by
  induction f with
  | nil => intro k; simp [nds]
  | cons a f ih =>
    intro k
    cases k with
    | zero => simp [nds]
    | succ k =>
      have e1 : nds (a :: f) = ndC a ++ nds f := by simp [nds]
      have e2 : nds ((a :: f).take (k + 1)) = ndC a ++ nds (f.take k) := by simp [nds]
      have hc : (ndC a).length = 6 := rfl
      rw [e1, e2, ih k, List.take_append, hc, show (k + 1) * 6 - 6 = k * 6 from by omega, List.take_of_length_le (l := ndC a) (by rw [hc]; omega)]
theorem Reads.takeN {w : World} {B n : Nat} {A : Option Addr} {f : List Nd} (h : Reads w B 6 A n (nds f)) {k : Nat} (hk : k ≤ n) : Reads w B 6 A k (nds (f.take k)) := by
  have hl := h.nd_len
  refine ⟨by rw [nds_length, List.length_take]; omega, fun h0 => ?_⟩
  obtain ⟨ad, hA, hb, hc⟩ := h.2 (by omega)
  refine ⟨ad, hA, hb, fun j u hu => hc j u ?_⟩
  rw [nds_take, List.getElem?_take] at hu
  split at hu
  · exact hu
  · cases hu
set_option maxRecDepth 100000 in
theorem pCompact_own (f : List Nd) (A : Option Addr) (n c : Nat) (w : World) (hR : Reads w w.heap.size 6 A n (nds f)) (hm : n ≤ maxLen) :
    Calls Try.prog 25 #[.slice A n c] w fun e w' => ∃ A' c', e = .returned (.slice A' (compF f).length c') ∧ w'.ownsRow w.heap.size 44 6 (.slice A' (compF f).length c') (compF f).length (nds (compF f)) ∧ Below w.heap.size w w' := by
  have hl := hR.nd_len
  have HV := Lib.hid (pValid_any f A n c w hR hm)
  have HR := Lib.hid hR
  by_cases hz : fErr f = 0
  · have h200 := (fErr_ok hz).2.1
    have HC : Hid (∀ W, Reads W W.heap.size 6 A n (nds f) → Calls Try.prog 54 #[.slice A n c] W fun e w' => ∃ A' c', e = .returned (.slice A' (canonF f).length c') ∧ w'.ownsRow W.heap.size 44 6 (.slice A' (canonF f).length c') (canonF f).length (nds (canonF f)) ∧ Below W.heap.size W w') :=
      Lib.hid (fun W h => pCanon_own f (OkL_of hz) A n c W h (by omega))
    have e1 : compF f = canonF f := by unfold compF; rw [if_pos hz]
    rw [e1]
    rw [hz] at HV
    generalize canonF f = q at *
    clear hR hl hz h200 e1
    go_enter Try.func25, Try.ntmps25
    go_wp2_with fail
    refine (HV.out).mono ?_
    rintro e w1 ⟨rfl, hb⟩
    have HB := Lib.hid hb
    have hR1 := (HR.out.below hb).more hb.size
    clear hb
    go_wp2_with fail
    refine (HC.out w1 hR1).mono ?_
    rintro e w2 ⟨A', c', rfl, hR2, hb2⟩
    have HR2 := Lib.hid (own_base hR2 HB.out.size)
    have HB2 := Lib.hid (HB.out.trans (hb2.mono HB.out.size))
    clear hR2 hb2 hR1
    go_wp2
    go_ret
    exact ⟨A', c', rfl, HR2.out, HB2.out⟩
  · have e1 : compF f = [] := by unfold compF; rw [if_neg hz]
    have hzb : (fErr f == 0) = false := by simpa using hz
    rw [e1]
    rw [hzb] at HV
    clear hR hl hz e1 hzb
    go_enter Try.func25, Try.ntmps25
    go_wp2_with fail
    refine (HV.out).mono ?_
    rintro e w1 ⟨rfl, hb⟩
    have HB := Lib.hid hb
    clear hb
    go_wp2
    go_ret
    exact ⟨none, 0, rfl, World.ownsRow_nil _ _ _ _, HB.out⟩
theorem pCompact_any (f : List Nd) (A : Option Addr) (n c : Nat) (w : World) (hR : Reads w w.heap.size 6 A n (nds f)) (hm : n ≤ maxLen) :
    Calls Try.prog 25 #[.slice A n c] w fun e w' => ∃ A' c', e = .returned (.slice A' (compF f).length c') ∧ Reads w' w'.heap.size 6 A' (compF f).length (nds (compF f)) ∧ Below w.heap.size w w' :=
  (pCompact_own f A n c w hR hm).mono (by
    rintro e w' ⟨A', c', rfl, h1, h2⟩
    exact ⟨A', c', rfl, Reads.of_own h1, h2⟩)
theorem rCompact_own (f : List Nd) (A : Option Addr) (n c : Nat) (w : World) (hR : Reads w w.heap.size 6 A n (nds f)) (hm : n ≤ maxLen) :
    Calls Try.prog 26 #[.slice A n c] w fun e w' => ∃ A' c', e = .returned (.slice A' (compF f).length c') ∧ w'.ownsRow w.heap.size 44 6 (.slice A' (compF f).length c') (compF f).length (nds (compF f)) ∧ Below w.heap.size w w' := by
  have hl := hR.nd_len
  unfold maxLen at hm
  have HC := Lib.hid (rSub_own f ((n : Int) - 1) A n c w hR (by unfold maxLen; omega))
  have e1 : subF f ((n : Int) - 1) = compF f := by rw [← subF_last, hl]
  rw [e1] at HC
  generalize compF f = q at *
  clear hR hl e1
  go_enter Try.func26, Try.ntmps26
  go_wp2_with fail
  refine (HC.out).mono ?_
  rintro e w2 ⟨A', c', rfl, hR2, hb2⟩
  have HR2 := Lib.hid hR2
  have HB2 := Lib.hid hb2
  clear hR2 hb2
  go_wp2
  go_ret
  exact ⟨A', c', rfl, HR2.out, HB2.out⟩
theorem rCompact_any (f : List Nd) (A : Option Addr) (n c : Nat) (w : World) (hR : Reads w w.heap.size 6 A n (nds f)) (hm : n ≤ maxLen) :
    Calls Try.prog 26 #[.slice A n c] w fun e w' => ∃ A' c', e = .returned (.slice A' (compF f).length c') ∧ Reads w' w'.heap.size 6 A' (compF f).length (nds (compF f)) ∧ Below w.heap.size w w' :=
  (rCompact_own f A n c w hR hm).mono (by
    rintro e w' ⟨A', c', rfl, h1, h2⟩
    exact ⟨A', c', rfl, Reads.of_own h1, h2⟩)
theorem pSize_any (f : List Nd) (A : Option Addr) (n c : Nat) (w : World) (hR : Reads w w.heap.size 6 A n (nds f)) (hm : n ≤ maxLen) :
    Calls Try.prog 27 #[.slice A n c] w fun e w' => e = .returned (.int .i64 ((compF f).length : Int)) ∧ Below w.heap.size w w' := by
  have HC := Lib.hid (pCompact_any f A n c w hR hm)
  generalize compF f = q at *
  clear hR
  go_enter Try.func27, Try.ntmps27
  go_wp2_with fail
  refine (HC.out).mono ?_
  rintro e w2 ⟨A', c', rfl, hR2, hb2⟩
  have HB2 := Lib.hid hb2
  clear hR2 hb2
  go_wp2
  go_ret
  exact ⟨rfl, HB2.out⟩
theorem rSize_any (f : List Nd) (A : Option Addr) (n c : Nat) (w : World) (hR : Reads w w.heap.size 6 A n (nds f)) (hm : n ≤ maxLen) :
    Calls Try.prog 28 #[.slice A n c] w fun e w' => e = .returned (.int .i64 ((compF f).length : Int)) ∧ Below w.heap.size w w' := by
  have HC := Lib.hid (rCompact_any f A n c w hR hm)
  generalize compF f = q at *
  clear hR
  go_enter Try.func28, Try.ntmps28
  go_wp2_with fail
  refine (HC.out).mono ?_
  rintro e w2 ⟨A', c', rfl, hR2, hb2⟩
  have HB2 := Lib.hid hb2
  clear hR2 hb2
  go_wp2
  go_ret
  exact ⟨rfl, HB2.out⟩
set_option maxRecDepth 100000 in
set_option maxHeartbeats 4000000 in
theorem pSub_any (f : List Nd) (i : Int) (A : Option Addr) (n c : Nat) (w : World) (hc : n ≤ c) (hR : Reads w w.heap.size 6 A n (nds f)) (hm : n ≤ maxLen) :
    Calls Try.prog 29 #[.slice A n c, .int .i64 i] w fun e w' => ∃ A' c', e = .returned (.slice A' (subF f i).length c') ∧ Reads w' w'.heap.size 6 A' (subF f i).length (nds (subF f i)) ∧ Below w.heap.size w w' := by
  have hl := hR.nd_len
  have HV := Lib.hid (pValid_any f A n c w hR hm)
  have HR := Lib.hid hR
  unfold maxLen at hm
  by_cases hz : fErr f = 0
  · by_cases h0 : 0 ≤ i
    · by_cases h1 : i < n
      · obtain ⟨k, rfl⟩ : ∃ k : Nat, i = (k : Int) := ⟨i.toNat, by omega⟩
        have hk : k < n := by omega
        have h200 := (fErr_ok hz).2.1
        have HC : Hid (∀ W, Reads W W.heap.size 6 A n (nds f) → Calls Try.prog 54 #[.slice A (k + 1) c] W fun e w' => ∃ A' c', e = .returned (.slice A' (subF f k).length c') ∧ Reads w' w'.heap.size 6 A' (subF f k).length (nds (subF f k)) ∧ Below W.heap.size W w') :=
          Lib.hid (fun W h => by
            have := pCanon_any (f.take (k + 1)) ((OkL_of hz).take (by omega)) A (k + 1) c W (h.takeN (by omega)) (by omega)
            have e1 : subF f k = canonF (f.take (k + 1)) := by unfold subF; rw [if_pos ⟨hz, by omega, by omega⟩, Int.toNat_natCast]
            rw [e1]; exact this)
        rw [hz] at HV
        generalize subF f k = q at *
        have d0 : decide ((k : Int) < 0) = false := decide_eq_false (by omega)
        have d1 : decide ((k : Int) ≥ (n : Int)) = false := decide_eq_false (by omega)
        have d2 : decide (n ≤ k) = false := decide_eq_false (by omega)
        clear hR hl hz h0 h1
        go_enter Try.func29, Try.ntmps29
        go_wp2_with fail
        refine (HV.out).mono ?_
        rintro e w1 ⟨rfl, hb⟩
        have HB := Lib.hid hb
        have hR1 := (HR.out.below hb).more hb.size
        clear hb
        go_wp2_with fail
        refine (HC.out w1 hR1).mono ?_
        rintro e w2 ⟨A', c', rfl, hR2, hb2⟩
        have HR2 := Lib.hid hR2
        have HB2 := Lib.hid (HB.out.trans (hb2.mono HB.out.size))
        clear hR2 hb2 hR1
        go_wp2
        go_ret
        exact ⟨A', c', rfl, HR2.out, HB2.out⟩
      · have d0 : decide (i < 0) = false := decide_eq_false (by omega)
        have d1 : decide (i ≥ (n : Int)) = true := decide_eq_true (by omega)
        have HE : Hid (subF f i = []) := Lib.hid (by unfold subF; rw [if_neg (by omega)])
        rw [hz] at HV
        generalize subF f i = q at *
        have HE2 : q = [] := HE.out
        subst HE2
        clear HE hR h0 h1 hz hl
        go_enter Try.func29, Try.ntmps29
        go_wp2_with fail
        refine (HV.out).mono ?_
        rintro e w1 ⟨rfl, hb1⟩
        have HB1 := Lib.hid hb1
        clear hb1
        go_wp2
        go_ret
        exact ⟨none, 0, rfl, Reads.none_, HB1.out⟩
    · have d0 : decide (i < 0) = true := decide_eq_true (by omega)
      have HE : Hid (subF f i = []) := Lib.hid (by unfold subF; rw [if_neg (by omega)])
      rw [hz] at HV
      generalize subF f i = q at *
      have HE2 : q = [] := HE.out
      subst HE2
      clear HE hR h0 hz hl
      go_enter Try.func29, Try.ntmps29
      go_wp2_with fail
      refine (HV.out).mono ?_
      rintro e w1 ⟨rfl, hb1⟩
      have HB1 := Lib.hid hb1
      clear hb1
      go_wp2
      go_ret
      exact ⟨none, 0, rfl, Reads.none_, HB1.out⟩
  · have HE : Hid (subF f i = []) := Lib.hid (by unfold subF; rw [if_neg (fun e => hz e.1)])
    have hzb : (fErr f == 0) = false := by simpa using hz
    rw [hzb] at HV
    generalize subF f i = q at *
    have HE2 : q = [] := HE.out
    subst HE2
    clear HE hR hz hl
    go_enter Try.func29, Try.ntmps29
    go_wp2_with fail
    refine (HV.out).mono ?_
    rintro e w1 ⟨rfl, hb1⟩
    have HB1 := Lib.hid hb1
    clear hb1
    go_wp2
    go_ret
    exact ⟨none, 0, rfl, Reads.none_, HB1.out⟩
theorem neqRun (a b : Nd) (w : World) : (binOp .neq 44 (.agg #[.int .i64 a.op, .int .i64 a.i, .int .i64 a.e, .int .i64 a.g, .int .i64 a.x, .int .i64 a.y]) (.agg #[.int .i64 b.op, .int .i64 b.i, .int .i64 b.e, .int .i64 b.g, .int .i64 b.x, .int .i64 b.y])).run Try.prog w = .ok (.bool (!eqN a b)) w := by
  rw [run_neq_struct, Try.eqNode]
  rfl
theorem list_eq_at {a b : List Nd} (hl : a.length = b.length) (h : ∀ j, j < a.length → a.getD j nd0 = b.getD j nd0) : a = b := by
  apply List.ext_getElem hl
  intro j h1 h2
  have := h j h1
  simp [h1, h2] at this
  exact this
set_option maxRecDepth 100000 in
set_option maxHeartbeats 4000000 in
theorem rEqual_any (a b : List Nd) (A A2 : Option Addr) (n m c c2 : Nat) (w : World) (hR : Reads w w.heap.size 6 A n (nds a)) (hR2 : Reads w w.heap.size 6 A2 m (nds b)) (hm : n ≤ maxLen) (hm2 : m ≤ maxLen) :
    Calls Try.prog 24 #[.slice A n c, .slice A2 m c2] w fun e w' => e = .returned (.bool (decide (a = b))) ∧ Below w.heap.size w w' := by
  have hl := hR.nd_len
  have hl2 := hR2.nd_len
  have HL := Lib.hid hl
  have HL2 := Lib.hid hl2
  have HR := Lib.hid hR
  have HR2 := Lib.hid hR2
  unfold maxLen at hm hm2
  by_cases hnm : n = m
  · subst hnm
    have hne : ((n : Int) != (n : Int)) = false := by simp
    clear hR hR2 hl hl2
    go_enter Try.func24, Try.ntmps24
    go_wp2
    go_loopw [5] (fun i wr => ∃ k : Nat, k ≤ n ∧ i = .int .i64 k ∧ Hid (∀ j, j < k → a.getD j nd0 = b.getD j nd0) ∧ Hid (Below w.heap.size w wr)) (fun i _ => n - (intOf i).toNat)
    case atStart => exact ⟨0, Nat.zero_le _, rfl, Lib.hid (fun j hj => absurd hj (by omega)), Lib.hid (Below.refl _ _)⟩
    case round =>
      obtain ⟨k, hk, rfl, HF, HB⟩ := hrel
      by_cases hlt : k < n
      · obtain ⟨ad, rfl, hb, m0, m1, m2, m3, m4, m5⟩ := (HR.out.below HB.out).nd_at hlt
        obtain ⟨ad2, rfl, hb2, q0, q1, q2, q3, q4, q5⟩ := (HR2.out.below HB.out).nd_at hlt
        obtain ⟨x, hx⟩ : ∃ x, a.getD k nd0 = x := ⟨_, rfl⟩
        obtain ⟨y, hy⟩ : ∃ y, b.getD k nd0 = y := ⟨_, rfl⟩
        rw [hx] at m0 m1 m2 m3 m4 m5
        rw [hy] at q0 q1 q2 q3 q4 q5
        have HX := Lib.hid hx
        have HY := Lib.hid hy
        clear hx hy
        have l1 := add_cell m1
        have l2 := add_cell m2
        have l3 := add_cell m3
        have l4 := add_cell m4
        have l5 := add_cell m5
        have r1 := add_cell q1
        have r2 := add_cell q2
        have r3 := add_cell q3
        have r4 := add_cell q4
        have r5 := add_cell q5
        by_cases he : x = y
        · have HF2 := Lib.hid (fun j (hj : j < k + 1) => show a.getD j nd0 = b.getD j nd0 from by
            by_cases e : j = k
            · subst e; rw [HX.out, HY.out]; exact he
            · exact HF.out j (by omega))
          have hq : eqN x y = true := by unfold eqN; exact decide_eq_true he
          have hE := neqRun x y
          rw [hq] at hE
          clear he HF
          go_wp2
          go_quiet (fail)
          go_wp2
          go_roundw
          case rel => exact ⟨k + 1, by omega, by go_num, HF2, Lib.hid (below_drewN HB.out _)⟩
          case measure => simp [intOf]; omega
        · have HD : Hid (decide (a = b) = false) := Lib.hid (decide_eq_false (fun e => he (by rw [← HX.out, ← HY.out, e])))
          have hq : eqN x y = false := by unfold eqN; exact decide_eq_false he
          have hE := neqRun x y
          rw [hq] at hE
          clear he HF
          go_wp2
          go_quiet (fail)
          go_wp2
          go_ret
          exact ⟨by rw [HD.out]; rfl, below_drewN HB.out _⟩
      · have hkn : k = n := by omega
        subst hkn
        have HD : Hid (decide (a = b) = true) := Lib.hid (decide_eq_true (list_eq_at (HL.out.trans HL2.out.symm) (fun j hj => HF.out j (by have := HL.out; omega))))
        clear HF
        go_wp2
        go_ret
        exact ⟨by rw [HD.out]; rfl, HB.out⟩
  · have HD : Hid (decide (a = b) = false) := Lib.hid (decide_eq_false (fun e => hnm (by rw [← hl, ← hl2, e])))
    have hne : ((n : Int) != (m : Int)) = true := by rw [bne_iff_ne]; omega
    clear hR hR2 hl hl2 hnm
    go_enter Try.func24, Try.ntmps24
    go_wp2
    go_ret
    exact ⟨by rw [HD.out]; rfl, Below.refl _ _⟩
set_option maxRecDepth 100000 in
set_option maxHeartbeats 4000000 in
theorem sEqual_any (a b : List Nd) (A A2 : Option Addr) (n m c c2 : Nat) (w : World) (hR : Reads w w.heap.size 6 A n (nds a)) (hR2 : Reads w w.heap.size 6 A2 m (nds b)) (hm : n ≤ maxLen) (hm2 : m ≤ maxLen) :
    Calls Try.prog 65 #[.slice A n c, .slice A2 m c2] w fun e w' => e = .returned (.bool (decide (a = b))) ∧ Below w.heap.size w w' := by
  have hl := hR.nd_len
  have hl2 := hR2.nd_len
  have HL := Lib.hid hl
  have HL2 := Lib.hid hl2
  have HR := Lib.hid hR
  have HR2 := Lib.hid hR2
  unfold maxLen at hm hm2
  by_cases hnm : n = m
  · subst hnm
    have hne : ((n : Int) != (n : Int)) = false := by simp
    clear hR hR2 hl hl2
    go_enter Try.func65, Try.ntmps65
    go_wp2
    go_loopw [5, 13] (fun u i wr => ∃ k : Nat, k ≤ n ∧ i = .int .i64 k ∧ Hid (∀ j, j < k → a.getD j nd0 = b.getD j nd0) ∧ Hid (Below w.heap.size w wr)) (fun _ i _ => n - (intOf i).toNat)
    case atStart => exact ⟨0, Nat.zero_le _, rfl, Lib.hid (fun j hj => absurd hj (by omega)), Lib.hid (Below.refl _ _)⟩
    case round =>
      obtain ⟨k, hk, rfl, HF, HB⟩ := hrel
      by_cases hlt : k < n
      · obtain ⟨ad, rfl, hb, m0, m1, m2, m3, m4, m5⟩ := (HR.out.below HB.out).nd_at hlt
        obtain ⟨ad2, rfl, hb2, q0, q1, q2, q3, q4, q5⟩ := (HR2.out.below HB.out).nd_at hlt
        obtain ⟨x, hx⟩ : ∃ x, a.getD k nd0 = x := ⟨_, rfl⟩
        obtain ⟨y, hy⟩ : ∃ y, b.getD k nd0 = y := ⟨_, rfl⟩
        rw [hx] at m0 m1 m2 m3 m4 m5
        rw [hy] at q0 q1 q2 q3 q4 q5
        have HX := Lib.hid hx
        have HY := Lib.hid hy
        clear hx hy
        have l1 := add_cell m1
        have l2 := add_cell m2
        have l3 := add_cell m3
        have l4 := add_cell m4
        have l5 := add_cell m5
        have r1 := add_cell q1
        have r2 := add_cell q2
        have r3 := add_cell q3
        have r4 := add_cell q4
        have r5 := add_cell q5
        by_cases he : x = y
        · have HF2 := Lib.hid (fun j (hj : j < k + 1) => show a.getD j nd0 = b.getD j nd0 from by
            by_cases e : j = k
            · subst e; rw [HX.out, HY.out]; exact he
            · exact HF.out j (by omega))
          have hq : eqN x y = true := by unfold eqN; exact decide_eq_true he
          have hE := neqRun x y
          rw [hq] at hE
          clear he HF
          go_wp2
          go_quiet (fail)
          go_wp2
          go_roundw
          case rel => exact ⟨k + 1, by omega, by go_num, HF2, Lib.hid (below_drewN HB.out _)⟩
          case measure => simp [intOf]; omega
        · have HD : Hid (decide (a = b) = false) := Lib.hid (decide_eq_false (fun e => he (by rw [← HX.out, ← HY.out, e])))
          have hq : eqN x y = false := by unfold eqN; exact decide_eq_false he
          have hE := neqRun x y
          rw [hq] at hE
          clear he HF
          go_wp2
          go_quiet (fail)
          go_wp2
          go_ret
          exact ⟨by rw [HD.out]; rfl, below_drewN HB.out _⟩
      · have hkn : k = n := by omega
        subst hkn
        have HD : Hid (decide (a = b) = true) := Lib.hid (decide_eq_true (list_eq_at (HL.out.trans HL2.out.symm) (fun j hj => HF.out j (by have := HL.out; omega))))
        clear HF
        go_wp2
        go_ret
        exact ⟨by rw [HD.out]; rfl, HB.out⟩
  · have HD : Hid (decide (a = b) = false) := Lib.hid (decide_eq_false (fun e => hnm (by rw [← hl, ← hl2, e])))
    have hne : ((n : Int) != (m : Int)) = true := by rw [bne_iff_ne]; omega
    clear hR hR2 hl hl2 hnm
    go_enter Try.func65, Try.ntmps65
    go_wp2
    go_ret
    exact ⟨by rw [HD.out]; rfl, Below.refl _ _⟩
end Go.Proofs.Ytcbmncafmofcpaa
