/- FormulaCompacts (P5.2, P5.4): Compact, Size, Sub and Subs of the program give the specified lists and numbers, for any list of nodes and any number. No condition. -/
import Derived.Test.YtppkmapmpejhiaaMl
import Derived.Test.YtppkmapmpejhiaaMm
import Derived.Test.YtppkmapmpejhiaaMo
namespace Go.Proofs.Ytppkmapmpejhiaa.formulaCompacts
open Go.ChangeShapes Go.WideShapes Go.ChangeAt Go.RowKit Go.Proofs.Ytppkmapmpejhiaa Go.Proofs.Ws
theorem subF_le (f : List Nd) (i : Int) : (subF f i).length ≤ f.length := by
  unfold subF
  split
  · rename_i h
    obtain ⟨k, rfl⟩ : ∃ k : Nat, i = (k : Int) := ⟨i.toNat, by omega⟩
    rw [Int.toNat_natCast, canon_take (fErr_ops h.1) (by omega)]
    exact finW_out_le (fErr_ops h.1) k (by omega)
  · exact Nat.zero_le _
theorem subs_item (f : List Nd) (k : Nat) (hk : k < (subsF f).length) : ((subsF f).getD k []).length ≤ (compF f).length := by
  unfold subsF at hk ⊢
  simp at hk
  have e : ((List.range (compF f).length).map (fun i => canonF ((compF f).take (i + 1)))).getD k [] = canonF ((compF f).take (k + 1)) := by simp [hk]
  rw [e]
  have hz : fErr f = 0 := by
    cases Decidable.em (fErr f = 0) with
    | inl h => exact h
    | inr h => unfold compF at hk; rw [if_neg h] at hk; simp at hk
  have hz2 := compF_ok hz
  rw [canon_take (fErr_ops hz2) hk]
  exact finW_out_le (fErr_ops hz2) k hk
set_option maxRecDepth 100000 in
set_option maxHeartbeats 4000000 in
theorem walk (x : List Nd) (A0 : Option Addr) (n0 c0 : Nat) (zi : Int) (w : World) (h0 : NdRow w A0 n0 c0 x) :
    Calls Try.prog 4 #[.slice A0 n0 c0, .int .i64 zi] w fun e w' => e = .returned (.bool true) ∧ Below w.heap.size w w' := by
  have HX := Lib.hid h0.1
  have hl0 := h0.1.nd_len
  have hc0 := h0.2.2.1
  have hm0 := h0.2.2.2
  have HAW := Lib.hid (fun W => awake_any W)
  have HP1 : Hid (∀ W, Below w.heap.size w W → Calls Try.prog 25 #[.slice A0 n0 c0] W fun e w' => ∃ A' c', e = .returned (.slice A' (compF x).length c') ∧ Reads w' w'.heap.size 6 A' (compF x).length (nds (compF x)) ∧ Below W.heap.size W w') := Lib.hid (fun W h => pCompact_any x A0 n0 c0 W ((HX.out.below h).more h.size) hm0)
  have HP2 : Hid (∀ W, Below w.heap.size w W → Calls Try.prog 26 #[.slice A0 n0 c0] W fun e w' => ∃ A' c', e = .returned (.slice A' (compF x).length c') ∧ Reads w' w'.heap.size 6 A' (compF x).length (nds (compF x)) ∧ Below W.heap.size W w') := Lib.hid (fun W h => rCompact_any x A0 n0 c0 W ((HX.out.below h).more h.size) hm0)
  have HZ1 : Hid (∀ W, Below w.heap.size w W → Calls Try.prog 27 #[.slice A0 n0 c0] W fun e w' => e = .returned (.int .i64 ((compF x).length : Int)) ∧ Below W.heap.size W w') := Lib.hid (fun W h => pSize_any x A0 n0 c0 W ((HX.out.below h).more h.size) hm0)
  have HZ2 : Hid (∀ W, Below w.heap.size w W → Calls Try.prog 28 #[.slice A0 n0 c0] W fun e w' => e = .returned (.int .i64 ((compF x).length : Int)) ∧ Below W.heap.size W w') := Lib.hid (fun W h => rSize_any x A0 n0 c0 W ((HX.out.below h).more h.size) hm0)
  have HS1 : Hid (∀ W, Below w.heap.size w W → Calls Try.prog 29 #[.slice A0 n0 c0, .int .i64 zi] W fun e w' => ∃ A' c', e = .returned (.slice A' (subF x zi).length c') ∧ Reads w' w'.heap.size 6 A' (subF x zi).length (nds (subF x zi)) ∧ Below W.heap.size W w') := Lib.hid (fun W h => pSub_any x zi A0 n0 c0 W hc0 ((HX.out.below h).more h.size) hm0)
  have HS2 : Hid (∀ W, Below w.heap.size w W → Calls Try.prog 30 #[.slice A0 n0 c0, .int .i64 zi] W fun e w' => ∃ A' c', e = .returned (.slice A' (subF x zi).length c') ∧ Reads w' w'.heap.size 6 A' (subF x zi).length (nds (subF x zi)) ∧ Below W.heap.size W w') := Lib.hid (fun W h => rSub_any x zi A0 n0 c0 W ((HX.out.below h).more h.size) hm0)
  have HL1 : Hid (∀ W, Below w.heap.size w W → Calls Try.prog 32 #[.slice A0 n0 c0] W fun e w' => ∃ v, e = .returned v ∧ LL w' W.heap.size v (subsF x) ∧ Below W.heap.size W w') := Lib.hid (fun W h => pSubs_any x A0 n0 c0 W ((HX.out.below h).more h.size) hm0)
  have HL2 : Hid (∀ W, Below w.heap.size w W → Calls Try.prog 33 #[.slice A0 n0 c0] W fun e w' => ∃ v, e = .returned v ∧ LL w' W.heap.size v (subsF x) ∧ Below W.heap.size W w') := Lib.hid (fun W h => rSubs_any x A0 n0 c0 W ((HX.out.below h).more h.size) hm0)
  have hk1 : (compF x).length ≤ maxLen := Nat.le_trans (compF_le x) (by omega)
  have hk2 : (subF x zi).length ≤ maxLen := Nat.le_trans (subF_le x zi) (by omega)
  have hsl : (subsF x).length = (compF x).length := by simp [subsF]
  have HLS : Hid (∀ v1 v2 b1 b2 W, LL W b1 v1 (subsF x) → LL W b2 v2 (subsF x) → Calls Try.prog 31 #[v1, v2] W fun e w' => e = .returned (.bool true) ∧ Below W.heap.size W w') := Lib.hid (fun v1 v2 b1 b2 W k1 k2 => sameLists_any (subsF x) v1 v2 b1 b2 W k1 k2 (by
    rw [hsl]
    by_cases hz : fErr x = 0
    · have := (fErr_ok (compF_ok hz)).2.1; omega
    · unfold compF; rw [if_neg hz]; simp) (fun k hk => Nat.le_trans (subs_item x k hk) hk1))
  have HE1 : Hid (∀ A2 A3 c2 c3 W, Reads W W.heap.size 6 A2 (compF x).length (nds (compF x)) → Reads W W.heap.size 6 A3 (compF x).length (nds (compF x)) → Calls Try.prog 24 #[.slice A2 (compF x).length c2, .slice A3 (compF x).length c3] W fun e w' => e = .returned (.bool true) ∧ Below W.heap.size W w') := Lib.hid (fun A2 A3 c2 c3 W h1 h2 => by
    have := rEqual_any (compF x) (compF x) A2 A3 _ _ c2 c3 W h1 h2 hk1 hk1
    rw [decide_eq_true rfl] at this
    exact this)
  have HE2 : Hid (∀ A2 A3 c2 c3 W, Reads W W.heap.size 6 A2 (subF x zi).length (nds (subF x zi)) → Reads W W.heap.size 6 A3 (subF x zi).length (nds (subF x zi)) → Calls Try.prog 24 #[.slice A2 (subF x zi).length c2, .slice A3 (subF x zi).length c3] W fun e w' => e = .returned (.bool true) ∧ Below W.heap.size W w') := Lib.hid (fun A2 A3 c2 c3 W h1 h2 => by
    have := rEqual_any (subF x zi) (subF x zi) A2 A3 _ _ c2 c3 W h1 h2 hk2 hk2
    rw [decide_eq_true rfl] at this
    exact this)
  clear hsl hl0 hk1 hk2 h0
  generalize compF x = q at *
  generalize subF x zi = sq at *
  generalize subsF x = ls at *
  unfold maxLen at hm0
  have hqq : ((q.length : Int) == (q.length : Int)) = true := by simp
  by_cases hc : n0 ≤ 60 ∨ 200 < n0 ∧ n0 ≤ 300
  · rcases hc with hc | hc
    · have d0 : decide (60 < (n0 : Int)) = false := decide_eq_false (by omega)
      have e0 : decide (60 < n0) = false := decide_eq_false (by omega)
      have d1 : decide (300 < (n0 : Int)) = false := decide_eq_false (by omega)
      have e1 : decide (300 < n0) = false := decide_eq_false (by omega)
      clear hc
      go_enter Try.func4, Try.ntmps4
      go_wp2_with fail
      refine (HAW.out _).mono ?_
      rintro e w1 ⟨rfl, hb⟩
      have HB1 := Lib.hid hb
      clear hb
      go_wp2_with fail
      refine (HP1.out _ HB1.out).mono ?_
      rintro e w2 ⟨A2, c2, rfl, hR, hb⟩
      have HR2 := Lib.hid hR
      have HB2 := Lib.hid (HB1.out.trans (hb.mono HB1.out.size))
      clear hR hb
      go_wp2_with fail
      refine (HP2.out _ HB2.out).mono ?_
      rintro e w3 ⟨A3, c3, rfl, hR, hb⟩
      have HR3 := Lib.hid hR
      have HR2b := Lib.hid ((HR2.out.below hb).more hb.size)
      have HB3 := Lib.hid (HB2.out.trans (hb.mono HB2.out.size))
      clear hR hb
      go_wp2_with fail
      refine (HE1.out A2 A3 c2 c3 _ HR2b.out HR3.out).mono ?_
      rintro e w4 ⟨rfl, hb⟩
      have HB4 := Lib.hid (HB3.out.trans (hb.mono HB3.out.size))
      clear hb
      go_wp2_with fail
      refine (HZ1.out _ HB4.out).mono ?_
      rintro e w5 ⟨rfl, hb⟩
      have HB5 := Lib.hid (HB4.out.trans (hb.mono HB4.out.size))
      clear hb
      go_wp2_with fail
      refine (HZ2.out _ HB5.out).mono ?_
      rintro e w6 ⟨rfl, hb⟩
      have HB6 := Lib.hid (HB5.out.trans (hb.mono HB5.out.size))
      clear hb
      go_wp2_with fail
      refine (HS1.out _ HB6.out).mono ?_
      rintro e w7 ⟨A7, c7, rfl, hR, hb⟩
      have HR7 := Lib.hid hR
      have HB7 := Lib.hid (HB6.out.trans (hb.mono HB6.out.size))
      clear hR hb
      go_wp2_with fail
      refine (HS2.out _ HB7.out).mono ?_
      rintro e w8 ⟨A8, c8, rfl, hR, hb⟩
      have HR8 := Lib.hid hR
      have HR7b := Lib.hid ((HR7.out.below hb).more hb.size)
      have HB8 := Lib.hid (HB7.out.trans (hb.mono HB7.out.size))
      clear hR hb
      go_wp2_with fail
      refine (HE2.out A7 A8 c7 c8 _ HR7b.out HR8.out).mono ?_
      rintro e w9 ⟨rfl, hb⟩
      have HB9 := Lib.hid (HB8.out.trans (hb.mono HB8.out.size))
      clear hb
      go_wp2_with fail
      refine (HL1.out _ HB9.out).mono ?_
      rintro e w10 ⟨v1, rfl, hL, hb⟩
      have HLL1 := Lib.hid hL
      have HB10 := Lib.hid (HB9.out.trans (hb.mono HB9.out.size))
      clear hL hb
      go_wp2_with fail
      refine (HL2.out _ HB10.out).mono ?_
      rintro e w11 ⟨v2, rfl, hL, hb⟩
      have HLL2 := Lib.hid hL
      have HLL1b := Lib.hid (HLL1.out.below hb)
      have HB11 := Lib.hid (HB10.out.trans (hb.mono HB10.out.size))
      clear hL hb
      go_wp2_with fail
      refine (HLS.out v1 v2 _ _ _ HLL1b.out HLL2.out).mono ?_
      rintro e w12 ⟨rfl, hb⟩
      have HB12 := Lib.hid (HB11.out.trans (hb.mono HB11.out.size))
      clear hb
      go_wp2
      go_ret
      exact ⟨rfl, HB12.out⟩
    · have d0 : decide (60 < (n0 : Int)) = true := decide_eq_true (by omega)
      have e0 : decide (60 < n0) = true := decide_eq_true (by omega)
      have d1 : decide ((n0 : Int) ≤ 200) = false := decide_eq_false (by omega)
      have e1 : decide (n0 ≤ 200) = false := decide_eq_false (by omega)
      have d2 : decide (300 < (n0 : Int)) = false := decide_eq_false (by omega)
      have e2 : decide (300 < n0) = false := decide_eq_false (by omega)
      clear hc
      go_enter Try.func4, Try.ntmps4
      go_wp2_with fail
      refine (HAW.out _).mono ?_
      rintro e w1 ⟨rfl, hb⟩
      have HB1 := Lib.hid hb
      clear hb
      go_wp2_with fail
      refine (HP1.out _ HB1.out).mono ?_
      rintro e w2 ⟨A2, c2, rfl, hR, hb⟩
      have HR2 := Lib.hid hR
      have HB2 := Lib.hid (HB1.out.trans (hb.mono HB1.out.size))
      clear hR hb
      go_wp2_with fail
      refine (HP2.out _ HB2.out).mono ?_
      rintro e w3 ⟨A3, c3, rfl, hR, hb⟩
      have HR3 := Lib.hid hR
      have HR2b := Lib.hid ((HR2.out.below hb).more hb.size)
      have HB3 := Lib.hid (HB2.out.trans (hb.mono HB2.out.size))
      clear hR hb
      go_wp2_with fail
      refine (HE1.out A2 A3 c2 c3 _ HR2b.out HR3.out).mono ?_
      rintro e w4 ⟨rfl, hb⟩
      have HB4 := Lib.hid (HB3.out.trans (hb.mono HB3.out.size))
      clear hb
      go_wp2_with fail
      refine (HZ1.out _ HB4.out).mono ?_
      rintro e w5 ⟨rfl, hb⟩
      have HB5 := Lib.hid (HB4.out.trans (hb.mono HB4.out.size))
      clear hb
      go_wp2_with fail
      refine (HZ2.out _ HB5.out).mono ?_
      rintro e w6 ⟨rfl, hb⟩
      have HB6 := Lib.hid (HB5.out.trans (hb.mono HB5.out.size))
      clear hb
      go_wp2_with fail
      refine (HS1.out _ HB6.out).mono ?_
      rintro e w7 ⟨A7, c7, rfl, hR, hb⟩
      have HR7 := Lib.hid hR
      have HB7 := Lib.hid (HB6.out.trans (hb.mono HB6.out.size))
      clear hR hb
      go_wp2_with fail
      refine (HS2.out _ HB7.out).mono ?_
      rintro e w8 ⟨A8, c8, rfl, hR, hb⟩
      have HR8 := Lib.hid hR
      have HR7b := Lib.hid ((HR7.out.below hb).more hb.size)
      have HB8 := Lib.hid (HB7.out.trans (hb.mono HB7.out.size))
      clear hR hb
      go_wp2_with fail
      refine (HE2.out A7 A8 c7 c8 _ HR7b.out HR8.out).mono ?_
      rintro e w9 ⟨rfl, hb⟩
      have HB9 := Lib.hid (HB8.out.trans (hb.mono HB8.out.size))
      clear hb
      go_wp2_with fail
      refine (HL1.out _ HB9.out).mono ?_
      rintro e w10 ⟨v1, rfl, hL, hb⟩
      have HLL1 := Lib.hid hL
      have HB10 := Lib.hid (HB9.out.trans (hb.mono HB9.out.size))
      clear hL hb
      go_wp2_with fail
      refine (HL2.out _ HB10.out).mono ?_
      rintro e w11 ⟨v2, rfl, hL, hb⟩
      have HLL2 := Lib.hid hL
      have HLL1b := Lib.hid (HLL1.out.below hb)
      have HB11 := Lib.hid (HB10.out.trans (hb.mono HB10.out.size))
      clear hL hb
      go_wp2_with fail
      refine (HLS.out v1 v2 _ _ _ HLL1b.out HLL2.out).mono ?_
      rintro e w12 ⟨rfl, hb⟩
      have HB12 := Lib.hid (HB11.out.trans (hb.mono HB11.out.size))
      clear hb
      go_wp2
      go_ret
      exact ⟨rfl, HB12.out⟩
  · by_cases hd : n0 ≤ 200
    · have d0 : decide (60 < (n0 : Int)) = true := decide_eq_true (by omega)
      have e0 : decide (60 < n0) = true := decide_eq_true (by omega)
      have d1 : decide ((n0 : Int) ≤ 200) = true := decide_eq_true (by omega)
      have e1 : decide (n0 ≤ 200) = true := decide_eq_true (by omega)
      clear hc
      go_enter Try.func4, Try.ntmps4
      go_wp2_with fail
      refine (HAW.out _).mono ?_
      rintro e w1 ⟨rfl, hb⟩
      have HB1 := Lib.hid hb
      clear hb
      go_wp2_with fail
      refine (HAW.out _).mono ?_
      rintro e w2 ⟨rfl, hb⟩
      have HB2 := Lib.hid (HB1.out.trans (hb.mono HB1.out.size))
      clear hb
      go_wp2
      go_ret
      exact ⟨rfl, HB2.out⟩
    · have d0 : decide (60 < (n0 : Int)) = true := decide_eq_true (by omega)
      have e0 : decide (60 < n0) = true := decide_eq_true (by omega)
      have d1 : decide ((n0 : Int) ≤ 200) = false := decide_eq_false (by omega)
      have e1 : decide (n0 ≤ 200) = false := decide_eq_false (by omega)
      have d2 : decide (300 < (n0 : Int)) = true := decide_eq_true (by omega)
      have e2 : decide (300 < n0) = true := decide_eq_true (by omega)
      clear hc
      go_enter Try.func4, Try.ntmps4
      go_wp2_with fail
      refine (HAW.out _).mono ?_
      rintro e w1 ⟨rfl, hb⟩
      have HB1 := Lib.hid hb
      clear hb
      go_wp2_with fail
      refine (HAW.out _).mono ?_
      rintro e w2 ⟨rfl, hb⟩
      have HB2 := Lib.hid (HB1.out.trans (hb.mono HB1.out.size))
      clear hb
      go_wp2
      go_ret
      exact ⟨rfl, HB2.out⟩
set_option maxRecDepth 100000 in
theorem contract (H : Type) (enc : TypeId × Value → H) (W : World) (base : Nat) (args : Array Value) (ds gs : List (DataW H)) (before : List MemPlace)
    (hval : ∀ (j : Nat) t v, Try.f4.params[j]? = some t → args[j]? = some v → Value.okWide Try.prog W .any base t v)
    (hW : DataW.Whole enc Try.prog Try.f4.params.toList Rows.formulaCompactsSpec.vars false W args.toList ds gs before) :
    Calls Try.prog 4 args W fun e W' => ∃ v, e = .returned v ∧ Rows.formulaCompactsSpec.post enc Try.prog Try.f4 false true false false W args v W' := by
  have hW' := hW
  obtain ⟨p, q, hA0, hV, rfl, hfz, hnd⟩ := hW
  have hA : DataW.TrodAll enc Try.prog W 0 (fun _ => true) true Try.f4.params.toList args.toList ds p := hA0
  rw [Try.params4] at hA hval
  obtain ⟨v0, vs0, d0, ds0, p0, q0, hargs, rfl, rfl, h0, r0⟩ := trodAll_cons hA
  obtain ⟨v1, vs1, d1, ds1, p1, q1, rfl, rfl, rfl, h1, r1⟩ := trodAll_cons r0
  obtain ⟨rfl, rfl, rfl⟩ := trodAll_nil r1
  obtain rfl : args = #[v0, v1] := by cases args; simp_all
  obtain ⟨rfl, rfl⟩ := trodVars_none hV
  obtain ⟨A0, n0, c0, rfl⟩ := okWide_slice Try.underlying22 (hval 0 22 v0 rfl rfl)
  obtain ⟨z0, w0⟩ : ∃ l, NdRow W A0 n0 c0 l := by
    obtain ⟨fuel, hf⟩ := h0
    exact open_nodes hf
  have k0 := h0
  have lt0 : ∀ x ∈ p0, x.block < W.heap.size := by obtain ⟨m, hm⟩ := k0; exact DataW.trod_lt m _ _ _ hm
  obtain ⟨z1, rfl⟩ := okWide_int Try.underlying3 (hval 1 3 v1 rfl rfl)
  have k1 := h1
  have lt1 : ∀ x ∈ p1, x.block < W.heap.size := by obtain ⟨m, hm⟩ := k1; exact DataW.trod_lt m _ _ _ hm
  clear hA0
  have hwalk : Calls Try.prog 4 #[.slice A0 n0 c0, .int .i64 z1] W fun e w' => e = .returned (.bool true) ∧ Below W.heap.size W w' := walk z0 A0 n0 c0 z1 W w0
  refine hwalk.mono fun e W' ⟨he, hg⟩ => ?_
  subst he
  exact ⟨_, rfl, _, _, _, [], _, [], hW', trodAll_mk1 (shut_bool Try.underlying4 _), (trodAll_cons_mk (Below.trod laidOut (by kernel_rfl) (of_decide_eq_true (by kernel_rfl)) k0 hg lt0) (trodAll_cons_mk (Below.trod laidOut (by kernel_rfl) (of_decide_eq_true (by kernel_rfl)) k1 hg lt1) trodAll_mk0)), rfl, hg.frame _, fun h => by cases h⟩
theorem reads (os : Os) {H : Type} (enc : TypeId × Value → H) : ∃ places, DataW.whole enc Try.prog ((laidW os).forCall (fun _ _ => 0) ⟨#[], #[.slice none 0 0, .int .i64 0], []⟩).memory Try.f4.params.toList Rows.formulaCompactsSpec.vars false #[Value.slice none 0 0, Value.int .i64 0].toList 8 = some ([.nil, .lit (.int .i64 0)], [], places) :=
  ⟨[], by kernel_rfl⟩
set_option maxRecDepth 100000 in
theorem lifted (os : Os) (started : os.Started) (H : Type) (enc : TypeId × Value → H) (F : Stop.Interp) :
    ReturnsInHanded {} Try.checked os 4 .any ((OpenSpec.ofChange Rows.formulaCompactsSpec).preRow enc Try.prog Try.f4 Rows.formulaCompactsRow.domain false Rows.formulaCompactsRow.laid) (((OpenSpec.ofChange Rows.formulaCompactsSpec).at F).post enc Try.prog Try.f4 false true false false) := by
  obtain ⟨places, hx⟩ := reads os enc
  refine returnsInHanded_of_row (C := Try.checked) (s := OpenSpec.ofChange Rows.formulaCompactsSpec) own started (by kernel_rfl) Try.func4
    (witness_row_at (enc := enc) (C := Try.checked) false (laidW os) #[.slice none 0 0, .int .i64 0] (laidW_os os) (vars_ok os _) (heap_ok os _) (by kernel_rfl)
      (OpenSpec.preRow_of_cond 8 hx (by kernel_rfl) (fun k hk => by cases hk) (by kernel_rfl) (laid_met os _))) ?_
  intro W base args ds gs before hval hW _ _ _ _ _ _
  exact contract H enc W base args ds gs before hval hW
theorem said : Rows.FormulaCompactsSaid :=
  OpenClaim.holds_of_cond 4 Try.f4 rfl rfl rfl rfl rfl rfl rfl ⟨rfl, rfl, rfl, rfl, rfl⟩ rfl rfl rfl rfl rfl (by kernel_rfl) Try.func4 (by kernel_rfl)
    (of_decide_eq_true (by kernel_rfl)) (by unfold Func.isWrapper; first | (rw [if_pos (by decide +kernel)]; kernel_rfl) | (rw [if_neg (by decide +kernel)]; exact ⟨rfl, rfl⟩))
    (fun os started H enc _ F => by rw [OpenClaim.pre_eq_preRow]; exact lifted os started H enc F)
#print axioms said
end Go.Proofs.Ytppkmapmpejhiaa.formulaCompacts
