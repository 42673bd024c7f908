/- FormulaBuilds (P5.5): each constructor of the program returns the specified formula, or nothing, for any operands and numbers. No condition. -/
import Derived.Test.YtcbmncafmofcpaaMl
import Derived.Test.YtcbmncafmofcpaaMy
import Derived.Test.YtcbmncafmofcpaaMx
namespace Go.Proofs.Ytcbmncafmofcpaa.formulaBuilds
open Go.ChangeShapes Go.WideShapes Go.ChangeAt Go.RowKit Go.Proofs.Ytcbmncafmofcpaa Go.Proofs.Ws
theorem parts_len (k zi ze zg : Int) (f h : List Nd) : (partsF k zi ze zg f h).length ≤ 200 := by
  have hb : ∀ (n : Nd) (fs : List (List Nd)), (buildF n fs).length ≤ 200 := by
    intro n fs
    unfold buildF
    repeat' split
    all_goals first | omega | exact Nat.zero_le _
  unfold partsF
  repeat' split
  all_goals exact hb _ _
set_option maxRecDepth 100000 in
set_option maxHeartbeats 4000000 in
theorem walk (k zi ze zg : Int) (f : List Nd) (Af : Option Addr) (nf cf : Nat) (h : List Nd) (Ah : Option Addr) (nh ch : Nat) (w : World) (h0 : NdRow w Af nf cf f) (h1 : NdRow w Ah nh ch h) :
    Calls Try.prog 6 #[.agg #[.int .i64 k, .int .i64 zi, .int .i64 ze, .int .i64 zg, .slice Af nf cf, .slice Ah nh ch]] w fun e w' => e = .returned (.bool true) ∧ Below w.heap.size w w' := by
  have HRf := Lib.hid h0.1
  have HRh := Lib.hid h1.1
  have hm0 := h0.2.2.2
  have hm1 := h1.2.2.2
  have HAW := Lib.hid (fun W => awake_any W)
  have HG : Hid (∀ W, Below (w.heap.size + 1) (w.alloc (.cells #[.int .i64 k, .int .i64 zi, .int .i64 ze, .int .i64 zg, .slice Af nf cf, .slice Ah nh ch] 35)) W → Below w.heap.size w W ∧ w.heap.size + 1 ≤ W.heap.size) := Lib.hid (fun W hW => by
    have h1 : Below w.heap.size w W := ((Below.refl _ w).alloc (Nat.le_refl _) _).trans (hW.mono (by omega))
    exact ⟨h1, by have := hW.size; simpa using this⟩)
  have HS : Hid (∀ W, Below (w.heap.size + 1) (w.alloc (.cells #[.int .i64 k, .int .i64 zi, .int .i64 ze, .int .i64 zg, .slice Af nf cf, .slice Ah nh ch] 35)) W → (W.cell? ⟨w.heap.size, 0, none⟩ = some (.int .i64 k) ∧ W.cell? ⟨w.heap.size, 1, none⟩ = some (.int .i64 zi) ∧ W.cell? ⟨w.heap.size, 2, none⟩ = some (.int .i64 ze) ∧ W.cell? ⟨w.heap.size, 3, none⟩ = some (.int .i64 zg) ∧ W.cell? ⟨w.heap.size, 4, none⟩ = some (.slice Af nf cf) ∧ W.cell? ⟨w.heap.size, 5, none⟩ = some (.slice Ah nh ch) ∧ Hid (Below (w.heap.size + 1) (w.alloc (.cells #[.int .i64 k, .int .i64 zi, .int .i64 ze, .int .i64 zg, .slice Af nf cf, .slice Ah nh ch] 35)) W))) := Lib.hid (fun W hW => by
    have hh : W.heap[w.heap.size]? = some (.cells #[.int .i64 k, .int .i64 zi, .int .i64 ze, .int .i64 zg, .slice Af nf cf, .slice Ah nh ch] 35 (0, 0)) := (hW.block _ (by omega)).trans (heap_alloc_new w _)
    have hc := Lib.cell_of_heap hh
    exact ⟨hc 0, hc 1, hc 2, hc 3, hc 4, hc 5, Lib.hid hW⟩)
  have HB0 : Hid (Below (w.heap.size + 1) (w.alloc (.cells #[.int .i64 k, .int .i64 zi, .int .i64 ze, .int .i64 zg, .slice Af nf cf, .slice Ah nh ch] 35)) (w.alloc (.cells #[.int .i64 k, .int .i64 zi, .int .i64 ze, .int .i64 zg, .slice Af nf cf, .slice Ah nh ch] 35))) := Lib.hid (Below.refl _ _)
  clear h0 h1
  by_cases hc0 : nf ≤ 250
  · have d00 : decide (250 < (nf : Int)) = false := decide_eq_false (by omega)
    have d01 : decide (250 < nf) = false := decide_eq_false (by omega)
    by_cases hc1 : nh ≤ 250
    · have d10 : decide (250 < (nh : Int)) = false := decide_eq_false (by omega)
      have d11 : decide (250 < nh) = false := decide_eq_false (by omega)
      by_cases hc2 : 1 ≤ k
      · have d20 : decide (k < 1) = false := decide_eq_false (by omega)
        by_cases hc3 : k ≤ 21
        · have d30 : decide (21 < k) = false := decide_eq_false (by omega)
          have hkn : known k = true := by unfold known; simp only [Bool.and_eq_true, decide_eq_true_eq]; omega
          have hql := parts_len k zi ze zg f h
          have K1 : Hid (∀ W, Hid (Below (w.heap.size + 1) (w.alloc (.cells #[.int .i64 k, .int .i64 zi, .int .i64 ze, .int .i64 zg, .slice Af nf cf, .slice Ah nh ch] 35)) W) → Calls Try.prog 38 #[.agg #[.int .i64 k, .int .i64 zi, .int .i64 ze, .int .i64 zg, .slice Af nf cf, .slice Ah nh ch]] W fun e W' => ∃ A' c', e = .returned (.slice A' (partsF k zi ze zg f h).length c') ∧ Hid (Reads W' W'.heap.size 6 A' (partsF k zi ze zg f h).length (nds (partsF k zi ze zg f h))) ∧ Hid (Below W.heap.size W W') ∧ (W'.cell? ⟨w.heap.size, 0, none⟩ = some (.int .i64 k) ∧ W'.cell? ⟨w.heap.size, 1, none⟩ = some (.int .i64 zi) ∧ W'.cell? ⟨w.heap.size, 2, none⟩ = some (.int .i64 ze) ∧ W'.cell? ⟨w.heap.size, 3, none⟩ = some (.int .i64 zg) ∧ W'.cell? ⟨w.heap.size, 4, none⟩ = some (.slice Af nf cf) ∧ W'.cell? ⟨w.heap.size, 5, none⟩ = some (.slice Ah nh ch) ∧ Hid (Below (w.heap.size + 1) (w.alloc (.cells #[.int .i64 k, .int .i64 zi, .int .i64 ze, .int .i64 zg, .slice Af nf cf, .slice Ah nh ch] 35)) W'))) := Lib.hid (fun W hW => by
            have hb := (HG.out _ hW.out).1
            refine (build_any k hkn zi ze zg f Af nf cf h Ah nh ch W ((HRf.out.below hb).more hb.size) hm0 ((HRh.out.below hb).more hb.size) hm1).mono ?_
            rintro e w' ⟨A', c', rfl, h2, h3⟩
            exact ⟨A', c', rfl, Lib.hid h2, Lib.hid h3, HS.out _ (hW.out.trans (h3.mono (HG.out _ hW.out).2))⟩)
          have K2 : Hid (∀ W, Hid (Below (w.heap.size + 1) (w.alloc (.cells #[.int .i64 k, .int .i64 zi, .int .i64 ze, .int .i64 zg, .slice Af nf cf, .slice Ah nh ch] 35)) W) → Calls Try.prog 39 #[.agg #[.int .i64 k, .int .i64 zi, .int .i64 ze, .int .i64 zg, .slice Af nf cf, .slice Ah nh ch]] W fun e W' => ∃ A' c', e = .returned (.slice A' (partsF k zi ze zg f h).length c') ∧ Hid (Reads W' W'.heap.size 6 A' (partsF k zi ze zg f h).length (nds (partsF k zi ze zg f h))) ∧ Hid (Below W.heap.size W W') ∧ (W'.cell? ⟨w.heap.size, 0, none⟩ = some (.int .i64 k) ∧ W'.cell? ⟨w.heap.size, 1, none⟩ = some (.int .i64 zi) ∧ W'.cell? ⟨w.heap.size, 2, none⟩ = some (.int .i64 ze) ∧ W'.cell? ⟨w.heap.size, 3, none⟩ = some (.int .i64 zg) ∧ W'.cell? ⟨w.heap.size, 4, none⟩ = some (.slice Af nf cf) ∧ W'.cell? ⟨w.heap.size, 5, none⟩ = some (.slice Ah nh ch) ∧ Hid (Below (w.heap.size + 1) (w.alloc (.cells #[.int .i64 k, .int .i64 zi, .int .i64 ze, .int .i64 zg, .slice Af nf cf, .slice Ah nh ch] 35)) W'))) := Lib.hid (fun W hW => by
            have hb := (HG.out _ hW.out).1
            refine (want_any k hkn zi ze zg f Af nf cf h Ah nh ch W ((HRf.out.below hb).more hb.size) hm0 ((HRh.out.below hb).more hb.size) hm1).mono ?_
            rintro e w' ⟨A', c', rfl, h2, h3⟩
            exact ⟨A', c', rfl, Lib.hid h2, Lib.hid h3, HS.out _ (hW.out.trans (h3.mono (HG.out _ hW.out).2))⟩)
          generalize partsF k zi ze zg f h = q at *
          have K3 : Hid (∀ W W1 A A2 c c2, Hid (Reads W1 W1.heap.size 6 A q.length (nds q)) → Hid (Below W1.heap.size W1 W) → Hid (Reads W W.heap.size 6 A2 q.length (nds q)) → Hid (Below (w.heap.size + 1) (w.alloc (.cells #[.int .i64 k, .int .i64 zi, .int .i64 ze, .int .i64 zg, .slice Af nf cf, .slice Ah nh ch] 35)) W) → Calls Try.prog 24 #[.slice A q.length c, .slice A2 q.length c2] W fun e W' => e = .returned (.bool true) ∧ (W'.cell? ⟨w.heap.size, 0, none⟩ = some (.int .i64 k) ∧ W'.cell? ⟨w.heap.size, 1, none⟩ = some (.int .i64 zi) ∧ W'.cell? ⟨w.heap.size, 2, none⟩ = some (.int .i64 ze) ∧ W'.cell? ⟨w.heap.size, 3, none⟩ = some (.int .i64 zg) ∧ W'.cell? ⟨w.heap.size, 4, none⟩ = some (.slice Af nf cf) ∧ W'.cell? ⟨w.heap.size, 5, none⟩ = some (.slice Ah nh ch) ∧ Hid (Below (w.heap.size + 1) (w.alloc (.cells #[.int .i64 k, .int .i64 zi, .int .i64 ze, .int .i64 zg, .slice Af nf cf, .slice Ah nh ch] 35)) W'))) := Lib.hid (fun W W1 A A2 c c2 h1 h2 h3 hW => by
            refine (rEqual_any q q A A2 _ _ c c2 W ((h1.out.below h2.out).more h2.out.size) h3.out (by unfold maxLen; omega) (by unfold maxLen; omega)).mono ?_
            rintro e w' ⟨rfl, h4⟩
            exact ⟨by simp, HS.out _ (hW.out.trans (h4.mono (HG.out _ hW.out).2))⟩)
          clear hc0 hc1 hc2 hc3 hkn
          go_enter Try.func6, Try.ntmps6
          go_wp2_with fail
          refine (HAW.out _).mono ?_
          rintro e w1 ⟨rfl, hb⟩
          have HB1 : Hid (Below (w.heap.size + 1) (w.alloc (.cells #[.int .i64 k, .int .i64 zi, .int .i64 ze, .int .i64 zg, .slice Af nf cf, .slice Ah nh ch] 35)) w1) := Lib.hid (HB0.out.trans (hb.mono (HG.out _ HB0.out).2))
          obtain ⟨c0, c1, c2, c3, c4, c5, _⟩ := HS.out _ HB1.out
          clear hb
          have hc6 : Hid (Below (w.heap.size + 1) (w.alloc (.cells #[.int .i64 k, .int .i64 zi, .int .i64 ze, .int .i64 zg, .slice Af nf cf, .slice Ah nh ch] 35)) w1.drew) := Lib.hid HB1.out.drew
          go_wp2_with fail
          go_region_held3 (fun W => (W.cell? ⟨w.heap.size, 0, none⟩ = some (.int .i64 k) ∧ W.cell? ⟨w.heap.size, 1, none⟩ = some (.int .i64 zi) ∧ W.cell? ⟨w.heap.size, 2, none⟩ = some (.int .i64 ze) ∧ W.cell? ⟨w.heap.size, 3, none⟩ = some (.int .i64 zg) ∧ W.cell? ⟨w.heap.size, 4, none⟩ = some (.slice Af nf cf) ∧ W.cell? ⟨w.heap.size, 5, none⟩ = some (.slice Ah nh ch) ∧ Hid (Below (w.heap.size + 1) (w.alloc (.cells #[.int .i64 k, .int .i64 zi, .int .i64 ze, .int .i64 zg, .slice Af nf cf, .slice Ah nh ch] 35)) W))) (first | assumption | (refine ⟨?_, ?_, ?_, ?_, ?_, ?_, ?_⟩ <;> assumption) | go_keep)
            (first
              | (go_at_call 38; refine (K1.out _ ?_).mono ?_; (first | assumption | simp [*]); rintro e Wb ⟨Ab, cb, rfl, hrb, hbb, g0, g1, g2, g3, g4, g5, g6⟩)
              | (go_at_call 39; refine (K2.out _ ?_).mono ?_; (first | assumption | simp [*]); rintro e Wc ⟨Ac, cc, rfl, hrc, hbc, g0, g1, g2, g3, g4, g5, g6⟩)
              | (go_at_call 24; refine (K3.out _ _ _ _ _ _ (by assumption) (by assumption) (by assumption) (by assumption)).mono ?_; rintro e Wd ⟨rfl, g0, g1, g2, g3, g4, g5, g6⟩))
          all_goals go_wp2
          all_goals go_ret
          all_goals (refine ⟨rfl, (HG.out _ (Hid.out (p := Below (w.heap.size + 1) (w.alloc (.cells #[.int .i64 k, .int .i64 zi, .int .i64 ze, .int .i64 zg, .slice Af nf cf, .slice Ah nh ch] 35)) _) ?_)).1⟩; assumption)
        · have d30 : decide (21 < k) = true := decide_eq_true (by omega)
          go_enter Try.func6, Try.ntmps6
          go_wp2_with fail
          refine (HAW.out _).mono ?_
          rintro e w1 ⟨rfl, hb⟩
          have HB1 : Hid (Below (w.heap.size + 1) (w.alloc (.cells #[.int .i64 k, .int .i64 zi, .int .i64 ze, .int .i64 zg, .slice Af nf cf, .slice Ah nh ch] 35)) w1) := Lib.hid (HB0.out.trans (hb.mono (HG.out _ HB0.out).2))
          obtain ⟨c0, c1, c2, c3, c4, c5, _⟩ := HS.out _ HB1.out
          clear hb
          go_wp2_with fail
          refine (HAW.out _).mono ?_
          rintro e w2 ⟨rfl, hb⟩
          have HB2 : Hid (Below (w.heap.size + 1) (w.alloc (.cells #[.int .i64 k, .int .i64 zi, .int .i64 ze, .int .i64 zg, .slice Af nf cf, .slice Ah nh ch] 35)) w2) := Lib.hid (HB1.out.trans (hb.mono (HG.out _ HB1.out).2))
          clear hb c0 c1 c2 c3 c4 c5
          go_wp2
          go_ret
          exact ⟨rfl, (HG.out _ HB2.out).1⟩
      · have d20 : decide (k < 1) = true := decide_eq_true (by omega)
        go_enter Try.func6, Try.ntmps6
        go_wp2_with fail
        refine (HAW.out _).mono ?_
        rintro e w1 ⟨rfl, hb⟩
        have HB1 : Hid (Below (w.heap.size + 1) (w.alloc (.cells #[.int .i64 k, .int .i64 zi, .int .i64 ze, .int .i64 zg, .slice Af nf cf, .slice Ah nh ch] 35)) w1) := Lib.hid (HB0.out.trans (hb.mono (HG.out _ HB0.out).2))
        obtain ⟨c0, c1, c2, c3, c4, c5, _⟩ := HS.out _ HB1.out
        clear hb
        go_wp2_with fail
        refine (HAW.out _).mono ?_
        rintro e w2 ⟨rfl, hb⟩
        have HB2 : Hid (Below (w.heap.size + 1) (w.alloc (.cells #[.int .i64 k, .int .i64 zi, .int .i64 ze, .int .i64 zg, .slice Af nf cf, .slice Ah nh ch] 35)) w2) := Lib.hid (HB1.out.trans (hb.mono (HG.out _ HB1.out).2))
        clear hb c0 c1 c2 c3 c4 c5
        go_wp2
        go_ret
        exact ⟨rfl, (HG.out _ HB2.out).1⟩
    · have d10 : decide (250 < (nh : Int)) = true := decide_eq_true (by omega)
      have d11 : decide (250 < nh) = true := decide_eq_true (by omega)
      go_enter Try.func6, Try.ntmps6
      go_wp2_with fail
      refine (HAW.out _).mono ?_
      rintro e w1 ⟨rfl, hb⟩
      have HB1 : Hid (Below (w.heap.size + 1) (w.alloc (.cells #[.int .i64 k, .int .i64 zi, .int .i64 ze, .int .i64 zg, .slice Af nf cf, .slice Ah nh ch] 35)) w1) := Lib.hid (HB0.out.trans (hb.mono (HG.out _ HB0.out).2))
      obtain ⟨c0, c1, c2, c3, c4, c5, _⟩ := HS.out _ HB1.out
      clear hb
      go_wp2_with fail
      refine (HAW.out _).mono ?_
      rintro e w2 ⟨rfl, hb⟩
      have HB2 : Hid (Below (w.heap.size + 1) (w.alloc (.cells #[.int .i64 k, .int .i64 zi, .int .i64 ze, .int .i64 zg, .slice Af nf cf, .slice Ah nh ch] 35)) w2) := Lib.hid (HB1.out.trans (hb.mono (HG.out _ HB1.out).2))
      clear hb c0 c1 c2 c3 c4 c5
      go_wp2
      go_ret
      exact ⟨rfl, (HG.out _ HB2.out).1⟩
  · have d00 : decide (250 < (nf : Int)) = true := decide_eq_true (by omega)
    have d01 : decide (250 < nf) = true := decide_eq_true (by omega)
    go_enter Try.func6, Try.ntmps6
    go_wp2_with fail
    refine (HAW.out _).mono ?_
    rintro e w1 ⟨rfl, hb⟩
    have HB1 : Hid (Below (w.heap.size + 1) (w.alloc (.cells #[.int .i64 k, .int .i64 zi, .int .i64 ze, .int .i64 zg, .slice Af nf cf, .slice Ah nh ch] 35)) w1) := Lib.hid (HB0.out.trans (hb.mono (HG.out _ HB0.out).2))
    obtain ⟨c0, c1, c2, c3, c4, c5, _⟩ := HS.out _ HB1.out
    clear hb
    go_wp2_with fail
    refine (HAW.out _).mono ?_
    rintro e w2 ⟨rfl, hb⟩
    have HB2 : Hid (Below (w.heap.size + 1) (w.alloc (.cells #[.int .i64 k, .int .i64 zi, .int .i64 ze, .int .i64 zg, .slice Af nf cf, .slice Ah nh ch] 35)) w2) := Lib.hid (HB1.out.trans (hb.mono (HG.out _ HB1.out).2))
    clear hb c0 c1 c2 c3 c4 c5
    go_wp2
    go_ret
    exact ⟨rfl, (HG.out _ HB2.out).1⟩
set_option maxRecDepth 100000 in
theorem contract (H : Type) (enc : TypeId × Value → H) (W : World) (base : Nat) (args : Array Value) (ds gs : List (DataW H)) (before : List MemPlace)
    (hval : ∀ (j : Nat) t v, Try.f6.params[j]? = some t → args[j]? = some v → Value.okWide Try.prog W .any base t v)
    (hW : DataW.Whole enc Try.prog Try.f6.params.toList Rows.formulaBuildsSpec.vars false W args.toList ds gs before) :
    Calls Try.prog 6 args W fun e W' => ∃ v, e = .returned v ∧ Rows.formulaBuildsSpec.post enc Try.prog Try.f6 false true false false W args v W' := by
  have hW' := hW
  obtain ⟨p, q, hA0, hV, rfl, hfz, hnd⟩ := hW
  have hA : DataW.TrodAll enc Try.prog W 0 (fun _ => true) true Try.f6.params.toList args.toList ds p := hA0
  rw [Try.params6] at hA hval
  obtain ⟨v0, vs0, d0, ds0, p0, q0, hargs, rfl, rfl, h0, r0⟩ := trodAll_cons hA
  obtain ⟨rfl, rfl, rfl⟩ := trodAll_nil r0
  obtain rfl : args = #[v0] := by cases args; simp_all
  obtain ⟨rfl, rfl⟩ := trodVars_none hV
  obtain ⟨pk, pi, pe, pg, Af, nf, cf, Ah, nh, ch, pf, ph, rfl, rf, rh⟩ := open_parts (hval 0 35 v0 rfl rfl) h0
  have k0 := h0
  have lt0 : ∀ x ∈ p0, x.block < W.heap.size := by obtain ⟨m, hm⟩ := k0; exact DataW.trod_lt m _ _ _ hm
  clear hA0
  have hwalk : Calls Try.prog 6 #[.agg #[.int .i64 pk, .int .i64 pi, .int .i64 pe, .int .i64 pg, .slice Af nf cf, .slice Ah nh ch]] W fun e w' => e = .returned (.bool true) ∧ Below W.heap.size W w' := walk pk pi pe pg pf Af nf cf ph Ah nh ch W rf rh
  refine hwalk.mono fun e W' ⟨he, hg⟩ => ?_
  subst he
  exact ⟨_, rfl, _, _, _, [], _, [], hW', trodAll_mk1 (shut_bool Try.underlying4 _), (trodAll_cons_mk (Below.trod laidOut (by kernel_rfl) (of_decide_eq_true (by kernel_rfl)) k0 hg lt0) trodAll_mk0), rfl, hg.frame _, fun h => by cases h⟩
theorem reads (os : Os) {H : Type} (enc : TypeId × Value → H) : ∃ places, DataW.whole enc Try.prog ((laidW os).forCall (fun _ _ => 0) ⟨#[], #[.agg #[.int .i64 0, .int .i64 0, .int .i64 0, .int .i64 0, .slice none 0 0, .slice none 0 0]], []⟩).memory Try.f6.params.toList Rows.formulaBuildsSpec.vars false #[Value.agg #[.int .i64 0, .int .i64 0, .int .i64 0, .int .i64 0, .slice none 0 0, .slice none 0 0]].toList 8 = some ([.agg [.lit (.int .i64 0), .lit (.int .i64 0), .lit (.int .i64 0), .lit (.int .i64 0), .nil, .nil]], [], places) :=
  ⟨[], by kernel_rfl⟩
set_option maxRecDepth 100000 in
theorem lifted (os : Os) (started : os.Started) (H : Type) (enc : TypeId × Value → H) (F : Stop.Interp) :
    ReturnsInHanded {} Try.checked os 6 .any ((OpenSpec.ofChange Rows.formulaBuildsSpec).preRow enc Try.prog Try.f6 Rows.formulaBuildsRow.domain false Rows.formulaBuildsRow.laid) (((OpenSpec.ofChange Rows.formulaBuildsSpec).at F).post enc Try.prog Try.f6 false true false false) := by
  obtain ⟨places, hx⟩ := reads os enc
  refine returnsInHanded_of_row (C := Try.checked) (s := OpenSpec.ofChange Rows.formulaBuildsSpec) own started (by kernel_rfl) Try.func6
    (witness_row_at (enc := enc) (C := Try.checked) false (laidW os) #[.agg #[.int .i64 0, .int .i64 0, .int .i64 0, .int .i64 0, .slice none 0 0, .slice none 0 0]] (laidW_os os) (vars_ok os _) (heap_ok os _) (by kernel_rfl)
      (OpenSpec.preRow_of_cond 8 hx (by kernel_rfl) (fun k hk => by cases hk) (by kernel_rfl) (laid_met os _))) ?_
  intro W base args ds gs before hval hW _ _ _ _ _ _
  exact contract H enc W base args ds gs before hval hW
theorem said : Rows.FormulaBuildsSaid :=
  OpenClaim.holds_of_cond 6 Try.f6 rfl rfl rfl rfl rfl rfl rfl ⟨rfl, rfl, rfl, rfl, rfl⟩ rfl rfl rfl rfl rfl (by kernel_rfl) Try.func6 (by kernel_rfl)
    (of_decide_eq_true (by kernel_rfl)) (by unfold Func.isWrapper; first | (rw [if_pos (by decide +kernel)]; kernel_rfl) | (rw [if_neg (by decide +kernel)]; exact ⟨rfl, rfl⟩))
    (fun os started H enc _ F => by rw [OpenClaim.pre_eq_preRow]; exact lifted os started H enc F)
#print axioms said
end Go.Proofs.Ytcbmncafmofcpaa.formulaBuilds
