/- Layer 13: equality of models; what is small. -/
import Derived.Test.YtofclgapgjcflaaDoorDg
namespace Go.Proofs.YtofclgapgjcflaaDoor
open Go.RowKit Go.Proofs.Ws
set_option maxRecDepth 100000
set_option maxHeartbeats 4000000 in
theorem eqFunc_any (a b : List (List Nat)) (A A2 : Option Addr) (n m c c2 B : Nat) (w : World) (hR : UsR w B A n a) (hR2 : UsR w B A2 m b) (hm : n ≤ maxLen) (hm2 : m ≤ maxLen) :
    Calls Tryd.prog 53 #[.slice A n c, .slice A2 m c2, .func (.func 52) #[] #[]] w fun e w' => e = .returned (.bool (decide (a = b))) ∧ ∃ q, w' = w.drewN q := by
  unfold maxLen at hm hm2
  have hl := hR.len
  have hl2 := hR2.len
  have HL := Lib.hid hl
  have HL2 := Lib.hid hl2
  have HR := Lib.hid hR
  have HR2 := Lib.hid hR2
  by_cases hnm : n = m
  · subst hnm
    have hne : ((n : Int) != (n : Int)) = false := by simp
    clear hR hR2 hl hl2
    go_enter Tryd.func53, Tryd.ntmps53
    go_wp2
    go_loopw [7, 8, 9, 17] (fun _ _ _ i wr => ∃ k q : Nat, k ≤ n ∧ i = .int .i64 k ∧ Hid (∀ j, j < k → a.getD j [] = b.getD j []) ∧ wr = w.drewN q) (fun _ _ _ i _ => n - (intOf i).toNat)
    case atStart => exact ⟨0, 0, Nat.zero_le _, rfl, Lib.hid (fun j hj => absurd hj (by omega)), rfl⟩
    case round =>
      obtain ⟨k, q, hk, rfl, HF, rfl⟩ := hrel
      by_cases hlt : k < n
      · obtain ⟨ad, Aj, cj, rfl, hb, hc, hr, hlj⟩ := HR.out.at_ hlt
        obtain ⟨ad2, Aj2, cj2, rfl, hb2, hc2, hr2, hlj2⟩ := HR2.out.at_ hlt
        obtain ⟨x, hx⟩ : ∃ x, a.getD k [] = x := ⟨_, rfl⟩
        obtain ⟨y, hy⟩ : ∃ y, b.getD k [] = y := ⟨_, rfl⟩
        rw [hx] at hc hr hlj
        rw [hy] at hc2 hr2 hlj2
        have HX := Lib.hid hx
        have HY := Lib.hid hy
        have HC := Lib.hid (fun W (h1 : Reads W B 1 Aj x.length (us x)) (h2 : Reads W B 1 Aj2 y.length (us y)) => sEqual_any x y Aj Aj2 x.length y.length cj cj2 B W h1 h2 hlj hlj2)
        have H1 := Lib.hid (hr.drewN q)
        have H2 := Lib.hid (hr2.drewN q)
        clear hx hy hr hr2 hlj hlj2
        by_cases he : x = y
        · have HF2 := Lib.hid (fun j (hj : j < k + 1) => show a.getD j [] = b.getD j [] from by
            by_cases e : j = k
            · subst e; rw [HX.out, HY.out]; exact he
            · exact HF.out j (by omega))
          rw [decide_eq_true he] at HC
          clear he HF
          go_wp2_with fail
          refine (HC.out _ H1.out H2.out).mono ?_
          rintro e w2 ⟨rfl, q2, rfl⟩
          go_wp2
          go_roundw
          case rel => exact ⟨k + 1, _, by omega, by go_num, HF2, by first | rfl | rw [World.drewN_drewN] | (simp; rfl)⟩
          case measure => simp [intOf]; omega
        · have HD : Hid (decide (a = b) = false) := Lib.hid (decide_eq_false (fun e => he (by rw [← HX.out, ← HY.out, e])))
          rw [decide_eq_false he] at HC
          clear he HF
          go_wp2_with fail
          refine (HC.out _ H1.out H2.out).mono ?_
          rintro e w2 ⟨rfl, q2, rfl⟩
          go_wp2
          go_ret
          exact ⟨ret_bool HD.out.symm, ⟨_, by first | rfl | rw [World.drewN_drewN]⟩⟩
      · have hkn : k = n := by omega
        subst hkn
        have HD : Hid (decide (a = b) = true) := Lib.hid (decide_eq_true (eqLL_at (HL.out.trans HL2.out.symm) (fun j hj => HF.out j (by have := HL.out; omega))))
        clear HF
        go_wp2
        go_ret
        exact ⟨ret_bool HD.out.symm, ⟨q, rfl⟩⟩
  · have HD : Hid (decide (a = b) = false) := Lib.hid (decide_eq_false (fun e => hnm (by rw [← hl, ← hl2, e])))
    have hne : ((n : Int) != (m : Int)) = true := by rw [bne_iff_ne]; omega
    clear hR hR2 hl hl2 hnm
    go_enter Tryd.func53, Tryd.ntmps53
    go_wp2
    go_ret
    exact ⟨ret_bool HD.out.symm, ⟨0, rfl⟩⟩
theorem mo_eq (a b : Mo) : decide (a = b) = (decide (a.n = b.n) && decide (a.val = b.val) && decide (a.rel = b.rel)) := by
  obtain ⟨n, v, r⟩ := a
  obtain ⟨n2, v2, r2⟩ := b
  rw [Bool.eq_iff_iff]
  simp [and_assoc]
theorem BoxBox (w : World) (n : Int) (v1 v2 : Value) (n' : Int) (v1' v2' : Value) :
    MBox ((w.alloc (.cells #[.int .i64 n, v1, v2] 25)).alloc (.cells #[.int .i64 n', v1', v2'] 25)) w.heap.size n v1 v2 ∧ MBox ((w.alloc (.cells #[.int .i64 n, v1, v2] 25)).alloc (.cells #[.int .i64 n', v1', v2'] 25)) (w.heap.size + 1) n' v1' v2' ∧ Below w.heap.size w ((w.alloc (.cells #[.int .i64 n, v1, v2] 25)).alloc (.cells #[.int .i64 n', v1', v2'] 25)) := by
  have h1 := MBox.made w n v1 v2
  have h2 := MBox.made (w.alloc (.cells #[.int .i64 n, v1, v2] 25)) n' v1' v2'
  have hs : (w.alloc (.cells #[.int .i64 n, v1, v2] 25)).heap.size = w.heap.size + 1 := by simp
  rw [hs] at h2
  exact ⟨(Below.heap_alloc _ _ _ h1.lt).trans h1, h2, ((Below.refl _ w).alloc (Nat.le_refl _) _).alloc (by simp) _⟩
theorem nn_decide (a b : Int) : (a != b) = !decide (a = b) := by
  by_cases h : a = b
  · rw [decide_eq_true h, h]; simp
  · rw [decide_eq_false h, Bool.not_false, bne_iff_ne]; exact h
set_option maxHeartbeats 8000000 in
theorem pSame_any (a b : Mo) (v v' : Value) (w : World) (hM : MoR w w.heap.size v a) (hM2 : MoR w w.heap.size v' b) :
    Calls Tryd.prog 34 #[v, v'] w fun e w' => e = .returned (.bool (decide (a = b))) ∧ Below w.heap.size w w' := by
  obtain ⟨A1, c1, A2, c2, rfl, hv, hr⟩ := hM.ex
  obtain ⟨A3, c3, A4, c4, rfl, hv2, hr2⟩ := hM2.ex
  have hl := hM.lim
  have hl2 := hM2.lim
  obtain ⟨hb1, hb2, hbe⟩ := BoxBox w a.n (.slice A1 a.val.length c1) (.slice A2 a.rel.length c2) b.n (.slice A3 b.val.length c3) (.slice A4 b.rel.length c4)
  have HB1 := Lib.hid hb1
  have HB2 := Lib.hid hb2
  have HBe := Lib.hid hbe
  have HQ := Lib.hid (fun W (hb : Below w.heap.size w W) => sEqual_any a.val b.val A1 A3 a.val.length b.val.length c1 c3 w.heap.size W (hv.below hb) (hv2.below hb) hl.1 hl2.1)
  have HR := Lib.hid (fun W (hb : Below w.heap.size w W) => eqFunc_any a.rel b.rel A2 A4 a.rel.length b.rel.length c2 c4 w.heap.size W (hr.below hb (Nat.le_refl _)) (hr2.below hb (Nat.le_refl _)) hl.2 hl2.2)
  have HE := Lib.hid (mo_eq a b)
  clear hM hM2 hv hv2 hb1 hb2 hbe
  generalize decide (a = b) = db at *
  by_cases h1 : a.n = b.n
  · have d1 : (a.n != b.n) = false := by rw [h1]; simp
    have d1' : (a.n == b.n) = true := by rw [h1]; simp
    rw [decide_eq_true h1, Bool.true_and] at HE
    clear h1
    by_cases h2 : a.val = b.val
    · rw [decide_eq_true h2] at HQ HE
      rw [Bool.true_and] at HE
      clear h2
      go_enter Tryd.func34, Tryd.ntmps34
      go_wp2_with fail
      refine (HQ.out _ HBe.out).mono ?_
      rintro e w2 ⟨rfl, q, rfl⟩
      generalize hw1 : (w.alloc (.cells #[.int .i64 a.n, .slice A1 a.val.length c1, .slice A2 a.rel.length c2] 25)).alloc (.cells #[.int .i64 b.n, .slice A3 b.val.length c3, .slice A4 b.rel.length c4] 25) = w1 at *
      clear hw1
      have b2 := HB1.out.c2
      have b4 := HB2.out.c2
      go_wp2_with fail
      refine (HR.out _ (below_drewN HBe.out _)).mono ?_
      rintro e w3 ⟨rfl, q2, rfl⟩
      go_wp2
      go_ret
      exact ⟨ret_bool HE.out.symm, by first | exact below_drewN HBe.out _ | exact below_drewN (below_drewN HBe.out _) _⟩
    · rw [decide_eq_false h2] at HQ HE
      rw [Bool.false_and] at HE
      clear h2
      go_enter Tryd.func34, Tryd.ntmps34
      go_wp2_with fail
      refine (HQ.out _ HBe.out).mono ?_
      rintro e w2 ⟨rfl, q, rfl⟩
      go_wp2
      go_ret
      exact ⟨ret_bool HE.out.symm, below_drewN HBe.out _⟩
  · have d1 : (a.n != b.n) = true := by rw [bne_iff_ne]; exact h1
    have d1' : (a.n == b.n) = false := by rw [beq_eq_false_iff_ne]; exact h1
    rw [decide_eq_false h1, Bool.false_and, Bool.false_and] at HE
    clear h1
    go_enter Tryd.func34, Tryd.ntmps34
    go_wp2
    go_ret
    exact ⟨ret_bool HE.out.symm, HBe.out⟩
set_option maxHeartbeats 8000000 in
theorem rSame_any (a b : Mo) (v v' : Value) (w : World) (hM : MoR w w.heap.size v a) (hM2 : MoR w w.heap.size v' b) :
    Calls Tryd.prog 21 #[v, v'] w fun e w' => e = .returned (.bool (decide (a = b))) ∧ Below w.heap.size w w' := by
  obtain ⟨A1, c1, A2, c2, rfl, hv, hr⟩ := hM.ex
  obtain ⟨A3, c3, A4, c4, rfl, hv2, hr2⟩ := hM2.ex
  have hl := hM.lim
  have hl2 := hM2.lim
  obtain ⟨hb1, hb2, hbe⟩ := BoxBox w a.n (.slice A1 a.val.length c1) (.slice A2 a.rel.length c2) b.n (.slice A3 b.val.length c3) (.slice A4 b.rel.length c4)
  have HB1 := Lib.hid hb1
  have HB2 := Lib.hid hb2
  have HBe := Lib.hid hbe
  have HQ := Lib.hid (fun W (hb : Below w.heap.size w W) => rSameSets_any a.val b.val A1 A3 a.val.length b.val.length c1 c3 w.heap.size W (hv.below hb) (hv2.below hb) hl.1 hl2.1)
  have HR := Lib.hid hr
  have HR2 := Lib.hid hr2
  have HL := Lib.hid hl
  have HL2 := Lib.hid hl2
  have HE := Lib.hid (mo_eq a b)
  clear hM hM2 hv hv2 hb1 hb2 hbe
  generalize decide (a = b) = db at *
  by_cases h1 : a.n = b.n
  · have d1 : (a.n != b.n) = false := by rw [h1]; simp
    have d1' : (a.n == b.n) = true := by rw [h1]; simp
    rw [decide_eq_true h1, Bool.true_and] at HE
    clear h1
    by_cases h2 : a.val = b.val
    · rw [decide_eq_true h2] at HQ HE
      rw [Bool.true_and] at HE
      clear h2
      by_cases h3 : a.rel.length = b.rel.length
      · have d3 : ((a.rel.length : Int) != (b.rel.length : Int)) = false := by rw [h3]; simp
        have HH3 := Lib.hid h3
        clear h3
        go_enter Tryd.func21, Tryd.ntmps21
        go_wp2_with fail
        refine (HQ.out _ HBe.out).mono ?_
        rintro e w2 ⟨rfl, q, rfl⟩
        generalize (w.alloc (.cells #[.int .i64 a.n, .slice A1 a.val.length c1, .slice A2 a.rel.length c2] 25)).alloc (.cells #[.int .i64 b.n, .slice A3 b.val.length c3, .slice A4 b.rel.length c4] 25) = w1 at *
        have HBW := Lib.hid (below_drewN HBe.out q)
        have HX1 : Hid (MBox (w1.drewN q) w.heap.size a.n (.slice A1 a.val.length c1) (.slice A2 a.rel.length c2)) := HB1
        have HX2 : Hid (MBox (w1.drewN q) (w.heap.size + 1) b.n (.slice A3 b.val.length c3) (.slice A4 b.rel.length c4)) := HB2
        generalize w1.drewN q = wq at *
        have b2 := HX1.out.c2
        have b4 := HX2.out.c2
        have hlr := HL.out.2
        have hlr2 := HL2.out.2
        unfold maxLen at hlr hlr2
        clear HB1 HB2 HBe HQ
        generalize a.rel.length = n at *
        generalize b.rel.length = n2 at *
        have hnn := HH3.out
        subst hnn
        go_wp2
        go_loopw [5] (fun i wr => ∃ k q : Nat, k ≤ n ∧ i = .int .i64 k ∧ Hid (∀ j, j < k → a.rel.getD j [] = b.rel.getD j []) ∧ wr = wq.drewN q) (fun i _ => n - (intOf i).toNat)
        case atStart => exact ⟨0, 0, Nat.zero_le _, rfl, Lib.hid (fun j hj => absurd hj (by omega)), rfl⟩
        case round =>
          obtain ⟨k, q3, hk, rfl, HF, rfl⟩ := hrel
          by_cases hlt : k < n
          · obtain ⟨ad, Aj, cj, rfl, hb, hc, hrr, hlj⟩ := (HR.out.below HBW.out (Nat.le_refl _)).at_ hlt
            obtain ⟨ad2, Aj2, cj2, rfl, hb2, hc2, hrr2, hlj2⟩ := (HR2.out.below HBW.out (Nat.le_refl _)).at_ hlt
            obtain ⟨x, hx⟩ : ∃ x, a.rel.getD k [] = x := ⟨_, rfl⟩
            obtain ⟨y, hy⟩ : ∃ y, b.rel.getD k [] = y := ⟨_, rfl⟩
            rw [hx] at hc hrr hlj
            rw [hy] at hc2 hrr2 hlj2
            have HX := Lib.hid hx
            have HY := Lib.hid hy
            have HC := Lib.hid (fun p => rSameSets_any x y Aj Aj2 x.length y.length cj cj2 w.heap.size (wq.drewN p) (hrr.drewN p) (hrr2.drewN p) hlj hlj2)
            clear hx hy hrr hrr2 hlj hlj2
            by_cases he : x = y
            · have HF2 := Lib.hid (fun j (hj : j < k + 1) => show a.rel.getD j [] = b.rel.getD j [] from by
                by_cases e : j = k
                · subst e; rw [HX.out, HY.out]; exact he
                · exact HF.out j (by omega))
              rw [decide_eq_true he] at HC
              clear he HF
              go_wp2
              go_quiet (first | (go_at_call 27; exact quiet_add (HC.out _)))
              go_wp2
              go_roundw
              case rel => exact ⟨k + 1, _, by omega, by go_num, HF2, by first | rfl | rw [World.drewN_drewN] | (simp; rfl)⟩
              case measure => simp [intOf]; omega
            · have HD : Hid (db = false) := Lib.hid (by rw [HE.out]; exact decide_eq_false (fun e => he (by rw [← HX.out, ← HY.out, e])))
              rw [decide_eq_false he] at HC
              clear he HF
              go_wp2
              go_quiet (first | (go_at_call 27; exact quiet_add (HC.out _)))
              go_wp2
              go_ret
              exact ⟨ret_bool HD.out.symm, by first | exact below_drewN HBW.out _ | exact below_drewN (below_drewN HBW.out _) _⟩
          · have hkn : k = n := by omega
            subst hkn
            have HD : Hid (db = true) := Lib.hid (by rw [HE.out]; exact decide_eq_true (eqLL_at (HR.out.len.trans HR2.out.len.symm) (fun j hj => HF.out j (by have := HR.out.len; omega))))
            clear HF
            go_wp2
            go_ret
            exact ⟨ret_bool HD.out.symm, below_drewN HBW.out _⟩
      · have d3 : ((a.rel.length : Int) != (b.rel.length : Int)) = true := by rw [bne_iff_ne]; omega
        have HD : Hid (db = false) := Lib.hid (by rw [HE.out]; exact decide_eq_false (fun e => h3 (by rw [e])))
        clear h3
        go_enter Tryd.func21, Tryd.ntmps21
        go_wp2_with fail
        refine (HQ.out _ HBe.out).mono ?_
        rintro e w2 ⟨rfl, q, rfl⟩
        go_wp2
        go_ret
        exact ⟨ret_bool HD.out.symm, below_drewN HBe.out _⟩
    · rw [decide_eq_false h2] at HQ HE
      rw [Bool.false_and] at HE
      clear h2
      go_enter Tryd.func21, Tryd.ntmps21
      go_wp2_with fail
      refine (HQ.out _ HBe.out).mono ?_
      rintro e w2 ⟨rfl, q, rfl⟩
      go_wp2
      go_ret
      exact ⟨ret_bool HE.out.symm, below_drewN HBe.out _⟩
  · have d1 : (a.n != b.n) = true := by rw [bne_iff_ne]; exact h1
    have d1' : (a.n == b.n) = false := by rw [beq_eq_false_iff_ne]; exact h1
    rw [decide_eq_false h1, Bool.false_and, Bool.false_and] at HE
    clear h1
    go_enter Tryd.func21, Tryd.ntmps21
    go_wp2
    go_ret
    exact ⟨ret_bool HE.out.symm, HBe.out⟩
/-- few of everything -/
def fewM (m : Mo) : Bool := decide (m.val.length ≤ 20) && decide (m.rel.length ≤ 10) && m.rel.all (fun r => decide (r.length ≤ 70))
set_option maxHeartbeats 4000000 in
theorem rFew_any (m : Mo) (v : Value) (w : World) (hM : MoR w w.heap.size v m) :
    Calls Tryd.prog 35 #[v, .int .i64 64] w fun e w' => e = .returned (.bool (fewM m)) ∧ Below w.heap.size w w' := by
  obtain ⟨A1, c1, A2, c2, rfl, hv, hr⟩ := hM.ex
  have hlm := hM.lim
  obtain ⟨n, val, rel⟩ := m
  dsimp only at hv hr hlm ⊢
  unfold maxLen at hlm
  have HB := Lib.hid (MBox.made w n (.slice A1 val.length c1) (.slice A2 rel.length c2))
  have HBe : Hid (Below w.heap.size w (w.alloc (.cells #[.int .i64 n, .slice A1 val.length c1, .slice A2 rel.length c2] 25))) := Lib.hid ((Below.refl _ w).alloc (Nat.le_refl _) _)
  have HRR := Lib.hid hr
  have HF : Hid (fewM ⟨n, val, rel⟩ = (decide (val.length ≤ 20) && decide (rel.length ≤ 10) && rel.all (fun r => decide (r.length ≤ 70)))) := Lib.hid rfl
  clear hM hv hr
  generalize fewM ⟨n, val, rel⟩ = fm at *
  have d0 : decide (64 < n) = true → decide (n ≤ 64) = false := fun h => decide_eq_false (by have := of_decide_eq_true h; omega)
  have hd0 : decide (64 < n) = true ∧ decide (n ≤ 64) = false ∨ decide (64 < n) = false := by
    by_cases h : 64 < n
    · exact .inl ⟨decide_eq_true h, decide_eq_false (by omega)⟩
    · exact .inr (decide_eq_false h)
  clear d0
  by_cases h1 : val.length ≤ 20
  · have d1 : decide ((20 : Int) < (val.length : Int)) = false := decide_eq_false (by omega)
    rw [decide_eq_true h1, Bool.true_and] at HF
    by_cases h2 : rel.length ≤ 10
    · have d2 : decide ((10 : Int) < (rel.length : Int)) = false := decide_eq_false (by omega)
      rw [decide_eq_true h2, Bool.true_and] at HF
      have HL : Hid (rel.length = rel.length) := Lib.hid rfl
      clear h1
      generalize hq : rel.length = q at *
      have HQ := Lib.hid hq
      clear hq HL
      rcases hd0 with ⟨hd1, hd2⟩ | hd1
      all_goals
        go_enter Tryd.func35, Tryd.ntmps35
        go_wp2
        generalize w.alloc (.cells #[.int .i64 n, .slice A1 val.length c1, .slice A2 q c2] 25) = w1 at *
        have b2 := HB.out.c2
        clear hd1
        try clear hd2
        clear d1 d2
        go_loopw [5] (fun i wr => ∃ j : Nat, j ≤ q ∧ i = .int .i64 j ∧ Hid (∀ r ∈ rel.take j, r.length ≤ 70) ∧ w1 = wr) (fun i _ => q - (intOf i).toNat)
        case atStart => exact ⟨0, Nat.zero_le _, rfl, Lib.hid (by simp), by first | rfl | trivial⟩
        case round =>
          obtain ⟨j, hj, rfl, HT, rfl⟩ := hrel
          by_cases hlt : j < q
          · obtain ⟨ad, Aj, cj, rfl, had, hcell, hrj, hlj⟩ := (HRR.out.below HBe.out (Nat.le_refl _)).at_ hlt
            clear hrj
            unfold maxLen at hlj
            generalize hrd : rel.getD j [] = rj at *
            have HRJ := Lib.hid hrd
            clear hrd
            by_cases he : rj.length ≤ 70
            · have HT2 : Hid (∀ r ∈ rel.take (j + 1), r.length ≤ 70) := Lib.hid (take_one (d := []) (by have := HQ.out; omega) HT.out (by rw [HRJ.out]; exact he))
              have hn : decide ((70 : Int) < (rj.length : Int)) = false := decide_eq_false (by omega)
              clear HT he
              go_wp2
              go_roundw
              case rel => exact ⟨j + 1, by omega, by go_num, HT2, by first | rfl | trivial⟩
              case measure => first | (simp [intOf]; done) | (simp [intOf]; omega)
            · have hn : decide ((70 : Int) < (rj.length : Int)) = true := decide_eq_true (by omega)
              have HD : Hid (fm = false) := Lib.hid (by
                rw [HF.out, List.all_eq_false]
                exact ⟨rj, by rw [← HRJ.out]; exact getD_mem' (by have := HQ.out; omega), by simpa using he⟩)
              clear HT he
              go_wp2
              go_ret
              exact ⟨ret_bool HD.out.symm, HBe.out⟩
          · have hjq : j = q := by omega
            subst hjq
            have HD : Hid (fm = true) := Lib.hid (by
              rw [HF.out, List.all_eq_true]
              exact fun r hr => decide_eq_true (HT.out r (by rw [List.take_of_length_le (by have := HQ.out; omega)]; exact hr)))
            clear HT
            go_wp2
            go_ret
            exact ⟨ret_bool HD.out.symm, HBe.out⟩
    · have d2 : decide ((10 : Int) < (rel.length : Int)) = true := decide_eq_true (by omega)
      rw [decide_eq_false h2, Bool.false_and] at HF
      rcases hd0 with ⟨hd1, hd2⟩ | hd1
      all_goals
        go_enter Tryd.func35, Tryd.ntmps35
        go_wp2
        go_ret
        exact ⟨ret_bool HF.out.symm, HBe.out⟩
  · have d1 : decide ((20 : Int) < (val.length : Int)) = true := decide_eq_true (by omega)
    rw [decide_eq_false h1, Bool.false_and, Bool.false_and] at HF
    rcases hd0 with ⟨hd1, hd2⟩ | hd1
    all_goals
      go_enter Tryd.func35, Tryd.ntmps35
      go_wp2
      go_ret
      exact ⟨ret_bool HF.out.symm, HBe.out⟩
theorem lFew_any (m : Mo) (v : Value) (w : World) (hM : MoR w w.heap.size v m) :
    Calls Tryd.prog 12 #[v] w fun e w' => e = .returned (.bool (fewM m)) ∧ Below w.heap.size w w' := by
  obtain ⟨A1, c1, A2, c2, rfl, hv, hr⟩ := hM.ex
  have HBe : Hid (Below w.heap.size w (w.alloc (.cells #[.int .i64 m.n, .slice A1 m.val.length c1, .slice A2 m.rel.length c2] 25))) := Lib.hid ((Below.refl _ w).alloc (Nat.le_refl _) _)
  have HC := Lib.hid (fun W (hb : Below w.heap.size w W) => rFew_any m (.agg #[.int .i64 m.n, .slice A1 m.val.length c1, .slice A2 m.rel.length c2]) W (hM.below hb hb.size))
  clear hM hv hr
  go_enter Tryd.func12, Tryd.ntmps12
  go_wp2_with fail
  refine (HC.out _ HBe.out).mono ?_
  rintro e w2 ⟨rfl, hb2⟩
  have HB2 := Lib.hid (HBe.out.trans (hb2.mono HBe.out.size))
  clear hb2
  go_wp2
  go_ret
  exact ⟨rfl, HB2.out⟩
end Go.Proofs.YtofclgapgjcflaaDoor
