/- PartitionOf (P3.1): Of, Discrete and Trivial return the specified partitions, or the specified errors, for all lists of words and all numbers. Conditions: the package variables that the row lists hold what the program's text lays in them. -/
import Derived.Test.YtichhbnpdhfimaaDoorVf
namespace Go.Proofs.YtichhbnpdhfimaaDoor.partitionOf
open Go.ChangeShapes Go.WideShapes Go.ChangeAt Go.RowKit Go.Proofs.YtichhbnpdhfimaaDoor Go.Proofs.YtichhbnpdhfimaaDoor.pof Go.Proofs.Ws
theorem of_len (r : List Nat) : (ofV r).1.length ≤ 64 := by
  unfold ofV
  split
  · simp
  · split
    · simp
    · split
      · rw [zL_length]; omega
      · simp
theorem disc_both (x : Int) : ∃ D E, D.length ≤ 64 ∧ (∀ W, FinW W → Calls Tryd.prog 15 #[.int .i64 x] W (GO D E W)) ∧ (∀ W, Calls Tryd.prog 16 #[.int .i64 x] W (GO D E W)) := by
  by_cases h : 0 ≤ x ∧ x ≤ 64
  · obtain ⟨k, rfl⟩ := Int.eq_ofNat_of_zero_le h.1
    exact ⟨finL k, 0, by rw [finL_length]; omega, fun W hW => pDiscrete_ok k W (by omega) hW, fun W => pRefDiscrete_ok k W (by omega)⟩
  · exact ⟨[], 8, by simp, fun W hW => pDiscrete_bad x W h hW, fun W => pRefDiscrete_bad x W h⟩
theorem triv_both (x : Int) : ∃ D E, D.length ≤ 64 ∧ (∀ W, Calls Tryd.prog 17 #[.int .i64 x] W (GO D E W)) ∧ (∀ W, Calls Tryd.prog 18 #[.int .i64 x] W (GO D E W)) := by
  by_cases h : 0 ≤ x ∧ x ≤ 64
  · obtain ⟨k, rfl⟩ := Int.eq_ofNat_of_zero_le h.1
    exact ⟨List.replicate k 0, 0, by rw [List.length_replicate]; omega, fun W => pTrivial_go k W (by omega), fun W => pRefTrivial_go k W (by omega)⟩
  · exact ⟨[], 8, by simp, fun W => pTrivial_goB x W h, fun W => pRefTrivial_goB x W h⟩
set_option maxRecDepth 100000 in
theorem walk_big (A : Option Addr) (n c : Nat) (x : Int) (w : World) (h1 : 70 < n) :
    Calls Tryd.prog 3 #[.slice A n c, .int .i64 x] w fun e w' => e = .returned (.bool true) ∧ Below w.heap.size w w' := by
  have hdm : decide ((70 : Int) < (n : Int)) = true := by simp; omega
  go_enter Tryd.func3, Tryd.ntmps3
  have HX := Lib.hid (awake_any w)
  go_wp2_with fail
  refine (HX.out).mono ?_
  rintro e w1 ⟨rfl, hb⟩
  clear HX
  go_wp2
  go_ret
  exact ⟨rfl, hb⟩
set_option maxRecDepth 100000 in
set_option maxHeartbeats 4000000 in
theorem walk_small (r : List Nat) (A : Option Addr) (n c : Nat) (x : Int) (w : World) (hR : Reads w w.heap.size 1 A n (us r)) (hW : Words r) (hn : n ≤ 70) (hT : Tab w) (hF : FinW w) :
    Calls Tryd.prog 3 #[.slice A n c, .int .i64 x] w fun e w' => e = .returned (.bool true) ∧ Below w.heap.size w w' := by
  have hm : n ≤ maxLen := by unfold maxLen; omega
  have hdm : decide ((70 : Int) < (n : Int)) = false := by simp; omega
  have K1 := Lib.hid (fun W (h1 : Reads W W.heap.size 1 A n (us r)) (h2 : Tab W) => of_any r A n c W h1 hW hm h2)
  have K2 := Lib.hid (fun W (h1 : Reads W W.heap.size 1 A n (us r)) => refOf_any r A n c W h1 hW hm)
  have hPL := of_len r
  generalize (ofV r).1 = P at *
  generalize (ofV r).2 = E1 at *
  obtain ⟨D, E2, hDL, k3, k4⟩ := disc_both x
  obtain ⟨S, E3, hSL, k5, k6⟩ := triv_both x
  have K3 := Lib.hid k3
  have K4 := Lib.hid k4
  have K5 := Lib.hid k5
  have K6 := Lib.hid k6
  have HR := Lib.hid hR
  have HT := Lib.hid hT
  have HF := Lib.hid hF
  have hb0 : Below w.heap.size w w := Below.refl _ _
  have HB0 := Lib.hid hb0
  have HL : Hid (P.length ≤ 64 ∧ D.length ≤ 64 ∧ S.length ≤ 64) := Lib.hid ⟨hPL, hDL, hSL⟩
  clear k3 k4 k5 k6 hR hT hF hW hPL hDL hSL hb0 hm
  go_enter Tryd.func3, Tryd.ntmps3

  go_wp2_with fail
  refine (K1.out _ (HR.out.step HB0.out) (HT.out.below HB0.out)).mono ?_
  rintro e w1 ⟨A1, c1, rfl, hr1, hb1⟩
  have HB1 : Hid (Below w.heap.size w w1) := Lib.hid (HB0.out.trans (hb1.mono HB0.out.size))
  have HQ1_1 := Lib.hid hr1
  clear hr1 hb1
  go_wp2_with fail
  refine (K2.out _ (HR.out.step HB1.out)).mono ?_
  rintro e w2 ⟨A2, c2, rfl, hr2, hb2⟩
  have HB2 : Hid (Below w.heap.size w w2) := Lib.hid (HB1.out.trans (hb2.mono HB1.out.size))
  have HQ2_2 := Lib.hid hr2
  have HQ1_2 := Lib.hid (HQ1_1.out.step hb2)
  clear HQ1_1
  clear hr2 hb2
  go_wp2_with fail
  refine (K3.out _ (HF.out.below HB2.out)).mono ?_
  rintro e w3 ⟨A3, c3, rfl, hr3, hb3⟩
  have HB3 : Hid (Below w.heap.size w w3) := Lib.hid (HB2.out.trans (hb3.mono HB2.out.size))
  have HQ3_3 := Lib.hid hr3
  have HQ1_3 := Lib.hid (HQ1_2.out.step hb3)
  clear HQ1_2
  have HQ2_3 := Lib.hid (HQ2_2.out.step hb3)
  clear HQ2_2
  clear hr3 hb3
  go_wp2_with fail
  refine (K4.out _).mono ?_
  rintro e w4 ⟨A4, c4, rfl, hr4, hb4⟩
  have HB4 : Hid (Below w.heap.size w w4) := Lib.hid (HB3.out.trans (hb4.mono HB3.out.size))
  have HQ4_4 := Lib.hid hr4
  have HQ1_4 := Lib.hid (HQ1_3.out.step hb4)
  clear HQ1_3
  have HQ2_4 := Lib.hid (HQ2_3.out.step hb4)
  clear HQ2_3
  have HQ3_4 := Lib.hid (HQ3_3.out.step hb4)
  clear HQ3_3
  clear hr4 hb4
  go_wp2_with fail
  refine (K5.out _).mono ?_
  rintro e w5 ⟨A5, c5, rfl, hr5, hb5⟩
  have HB5 : Hid (Below w.heap.size w w5) := Lib.hid (HB4.out.trans (hb5.mono HB4.out.size))
  have HQ5_5 := Lib.hid hr5
  have HQ1_5 := Lib.hid (HQ1_4.out.step hb5)
  clear HQ1_4
  have HQ2_5 := Lib.hid (HQ2_4.out.step hb5)
  clear HQ2_4
  have HQ3_5 := Lib.hid (HQ3_4.out.step hb5)
  clear HQ3_4
  have HQ4_5 := Lib.hid (HQ4_4.out.step hb5)
  clear HQ4_4
  clear hr5 hb5
  go_wp2_with fail
  refine (K6.out _).mono ?_
  rintro e w6 ⟨A6, c6, rfl, hr6, hb6⟩
  have HB6 : Hid (Below w.heap.size w w6) := Lib.hid (HB5.out.trans (hb6.mono HB5.out.size))
  have HQ6_6 := Lib.hid hr6
  have HQ1_6 := Lib.hid (HQ1_5.out.step hb6)
  clear HQ1_5
  have HQ2_6 := Lib.hid (HQ2_5.out.step hb6)
  clear HQ2_5
  have HQ3_6 := Lib.hid (HQ3_5.out.step hb6)
  clear HQ3_5
  have HQ4_6 := Lib.hid (HQ4_5.out.step hb6)
  clear HQ4_5
  have HQ5_6 := Lib.hid (HQ5_5.out.step hb6)
  clear HQ5_5
  clear hr6 hb6
  have q1 : (E1 == E1) = true := by simp
  have q2 : (E2 == E2) = true := by simp
  have q3 : (E3 == E3) = true := by simp
  have HE1 := Lib.hid (toB_drew (equalI_any P P A1 A2 P.length P.length c1 c2 _ w6 HQ1_6.out HQ2_6.out (by have := HL.out.1; unfold maxLen; omega) (by have := HL.out.1; unfold maxLen; omega)))
  rw [show decide (P = P) = true by simp] at HE1
  go_wp2_with fail
  refine (HE1.out).mono ?_
  rintro e w7 ⟨rfl, hb7⟩
  have HB7 : Hid (Below w.heap.size w w7) := Lib.hid (HB6.out.trans (hb7.mono HB6.out.size))
  have HQ1_7 := Lib.hid (HQ1_6.out.step hb7)
  skip
  have HQ2_7 := Lib.hid (HQ2_6.out.step hb7)
  skip
  have HQ3_7 := Lib.hid (HQ3_6.out.step hb7)
  clear HQ3_6
  have HQ4_7 := Lib.hid (HQ4_6.out.step hb7)
  clear HQ4_6
  have HQ5_7 := Lib.hid (HQ5_6.out.step hb7)
  clear HQ5_6
  have HQ6_7 := Lib.hid (HQ6_6.out.step hb7)
  clear HQ6_6
  clear hb7 HE1
  have HE3 := Lib.hid (toB_drew (equalI_any D D A3 A4 D.length D.length c3 c4 _ w7 HQ3_7.out HQ4_7.out (by have := HL.out.2.1; unfold maxLen; omega) (by have := HL.out.2.1; unfold maxLen; omega)))
  rw [show decide (D = D) = true by simp] at HE3
  go_wp2_with fail
  refine (HE3.out).mono ?_
  rintro e w8 ⟨rfl, hb8⟩
  have HB8 : Hid (Below w.heap.size w w8) := Lib.hid (HB7.out.trans (hb8.mono HB7.out.size))
  have HQ1_8 := Lib.hid (HQ1_7.out.step hb8)
  clear HQ1_7
  have HQ2_8 := Lib.hid (HQ2_7.out.step hb8)
  clear HQ2_7
  have HQ3_8 := Lib.hid (HQ3_7.out.step hb8)
  skip
  have HQ4_8 := Lib.hid (HQ4_7.out.step hb8)
  skip
  have HQ5_8 := Lib.hid (HQ5_7.out.step hb8)
  clear HQ5_7
  have HQ6_8 := Lib.hid (HQ6_7.out.step hb8)
  clear HQ6_7
  clear hb8 HE3
  have HE5 := Lib.hid (toB_drew (equalI_any S S A5 A6 S.length S.length c5 c6 _ w8 HQ5_8.out HQ6_8.out (by have := HL.out.2.2; unfold maxLen; omega) (by have := HL.out.2.2; unfold maxLen; omega)))
  rw [show decide (S = S) = true by simp] at HE5
  go_wp2_with fail
  refine (HE5.out).mono ?_
  rintro e w9 ⟨rfl, hb9⟩
  have HB9 : Hid (Below w.heap.size w w9) := Lib.hid (HB8.out.trans (hb9.mono HB8.out.size))
  have HQ1_9 := Lib.hid (HQ1_8.out.step hb9)
  clear HQ1_8
  have HQ2_9 := Lib.hid (HQ2_8.out.step hb9)
  clear HQ2_8
  have HQ3_9 := Lib.hid (HQ3_8.out.step hb9)
  clear HQ3_8
  have HQ4_9 := Lib.hid (HQ4_8.out.step hb9)
  clear HQ4_8
  have HQ5_9 := Lib.hid (HQ5_8.out.step hb9)
  skip
  have HQ6_9 := Lib.hid (HQ6_8.out.step hb9)
  skip
  clear hb9 HE5
  have HA := Lib.hid (awake_any w9)
  go_wp2_with fail
  refine (HA.out).mono ?_
  rintro e wz ⟨rfl, hbz⟩
  have HBz : Hid (Below w.heap.size w wz) := Lib.hid (HB9.out.trans (hbz.mono HB9.out.size))
  clear hbz HA
  go_wp2
  go_ret
  exact ⟨rfl, HBz.out⟩
set_option maxRecDepth 100000 in
theorem contract (H : Type) (enc : TypeId × Value → H) (W : World) (base : Nat) (args : Array Value) (ds gs : List (DataW H)) (before : List MemPlace)
    (hval : ∀ (j : Nat) t v, Tryd.f3.params[j]? = some t → args[j]? = some v → Value.okWide Tryd.prog W .any base t v)
    (hW : DataW.Whole enc Tryd.prog Tryd.f3.params.toList Rows.partitionOfSpec.vars false W args.toList ds gs before) (hE : Tab W ∧ FinW W) :
    Calls Tryd.prog 3 args W fun e W' => ∃ v, e = .returned v ∧ Rows.partitionOfSpec.post enc Tryd.prog Tryd.f3 false true false false W args v W' := by
  have hW' := hW
  obtain ⟨p, q, hA0, hV, rfl, hfz, hnd⟩ := hW
  have hA : DataW.TrodAll enc Tryd.prog W 0 (fun _ => true) true Tryd.f3.params.toList args.toList ds p := hA0
  rw [Tryd.params3] at hA hval
  obtain ⟨v0, vs0, d0, ds0, p0, q0, hargs, rfl, rfl, h0, r0⟩ := trodAll_cons hA
  obtain ⟨v1, vs1, d1, ds1, p1, q1, rfl, rfl, rfl, h1, r1⟩ := trodAll_cons r0
  obtain ⟨rfl, rfl, rfl⟩ := trodAll_nil r1
  obtain rfl : args = #[v0, v1] := by cases args; simp_all
  obtain ⟨rfl, rfl⟩ := trodVars_none hV
  obtain ⟨A0, n0, c0, rfl⟩ := okWide_slice Tryd.underlying22 (hval 0 22 v0 rfl rfl)
  have k0 := h0
  have lt0 : ∀ x ∈ p0, x.block < W.heap.size := by obtain ⟨m, hm⟩ := k0; exact DataW.trod_lt m _ _ _ hm
  obtain ⟨z0, w0⟩ : ∃ zs, IsRow .u64 W A0 n0 c0 zs := by
    obtain ⟨fuel, hf⟩ := h0
    rcases open_ints Tryd.underlying22 Tryd.underlying33 (by kernel_rfl) hf with ⟨hcs, _⟩ | ⟨x, l, c, zs, hcs, _, hl, hm, hz, _, hcell, hwz⟩
    · simp [Value.cells] at hcs
      obtain ⟨rfl, rfl, rfl⟩ := hcs
      exact ⟨[], .inl ⟨rfl, rfl, rfl, rfl⟩⟩
    · simp [Value.cells] at hcs
      obtain ⟨rfl, rfl, rfl⟩ := hcs
      exact ⟨zs, .inr ⟨_, rfl, hl, hm, by simpa using hz, hcell, hwz⟩⟩
  obtain ⟨a1, rfl, rfl, rfl, w1⟩ := open_int Tryd.underlying3 (hval 1 3 v1 rfl rfl) h1
  clear hA0
  simp only [List.append_nil] at hW'
  obtain ⟨l0, hR0, hw0, hm0, _⟩ := w0.words
  have hwalk : Calls Tryd.prog 3 #[.slice A0 n0 c0, .int .i64 a1] W fun e w' => e = .returned (.bool true) ∧ Below W.heap.size W w' := by
    by_cases h : n0 ≤ 70
    · exact walk_small l0 A0 n0 c0 a1 W hR0 hw0 h hE.1 hE.2
    · exact walk_big A0 n0 c0 a1 W (by omega)
  refine hwalk.mono fun e W' ⟨he, hg⟩ => ?_
  subst he
  exact ⟨_, rfl, _, _, _, [], _, [], hW', trodAll_mk1 (shut_bool Tryd.underlying4 _), (trodAll_cons_mk (Below.trod laidOut (by kernel_rfl) (of_decide_eq_true (by kernel_rfl)) k0 hg lt0) (trodAll_cons_mk (shut_int Tryd.underlying3 w1) trodAll_mk0)), rfl, hg.frame _, fun h => by cases h⟩
theorem reads (os : Os) {H : Type} (enc : TypeId × Value → H) : ∃ places, DataW.whole enc Tryd.prog ((laidW os).forCall (fun _ _ => 0) ⟨#[], #[.slice none 0 0, .int .i64 0], []⟩).memory Tryd.f3.params.toList Rows.partitionOfSpec.vars false #[Value.slice none 0 0, Value.int .i64 0].toList 8 = some ([.nil, .lit (.int .i64 0)], [], places) :=
  ⟨[], by kernel_rfl⟩
set_option maxRecDepth 100000 in
theorem lifted (os : Os) (started : os.Started) (H : Type) (enc : TypeId × Value → H) (F : Stop.Interp) :
    ReturnsInHanded {} Tryd.checked os 3 .any ((OpenSpec.ofChange Rows.partitionOfSpec).preRow enc Tryd.prog Tryd.f3 Rows.partitionOfRow.domain false Rows.partitionOfRow.laid) (((OpenSpec.ofChange Rows.partitionOfSpec).at F).post enc Tryd.prog Tryd.f3 false true false false) := by
  obtain ⟨places, hx⟩ := reads os enc
  refine returnsInHanded_of_row (C := Tryd.checked) (s := OpenSpec.ofChange Rows.partitionOfSpec) own started (by kernel_rfl) Tryd.func3
    (witness_row_atRef (enc := enc) (C := Tryd.checked) false (laidW os) #[.slice none 0 0, .int .i64 0] (laidW_os os) (vars_ok os _) (heap_ok os _) (by kernel_rfl)
      (OpenSpec.preRow_of_cond 8 hx (by kernel_rfl) (fun k hk => by cases hk) (by kernel_rfl) (laid_met os _))) ?_
  intro W base args ds gs before hval hW _ _ _ hL _ _
  exact contract H enc W base args ds gs before hval hW (env_of hL)
theorem said : Rows.PartitionOfSaid :=
  OpenClaim.holds_of_cond 3 Tryd.f3 rfl rfl rfl rfl rfl rfl rfl ⟨rfl, rfl, rfl, rfl, rfl⟩ rfl rfl rfl rfl rfl (by kernel_rfl) Tryd.func3 (by kernel_rfl)
    (of_decide_eq_true (by kernel_rfl)) (by unfold Func.isWrapper; first | (rw [if_pos (by decide +kernel)]; kernel_rfl) | (rw [if_neg (by decide +kernel)]; exact ⟨rfl, rfl⟩))
    (fun os started H enc _ F => by rw [OpenClaim.pre_eq_preRow]; exact lifted os started H enc F)
theorem plain (f : FuncId) (fn : Func) (hf : Tryd.pinned.checked.prog.funcNamed "witting/wittinglaw03.PartitionOf" = some f) (hfn : Tryd.pinned.checked.prog.funcs[f]? = some fn) :
    false = Tryd.pinned.checked.prog.looks [] ∧ ∀ (j : Nat) t, fn.params[j]? = some t → Tryd.pinned.checked.prog.wantsStandIn t = false := by
  obtain rfl : f = 3 := Option.some.inj ((show Tryd.prog.funcNamed "witting/wittinglaw03.PartitionOf" = some 3 by kernel_rfl).symm.trans hf) |>.symm
  obtain rfl : fn = Tryd.f3 := (Option.some.inj (Tryd.func3.symm.trans hfn)).symm
  refine ⟨no_looks, fun j t ht => ?_⟩
  rw [Tryd.params3] at ht
  have hm : t ∈ [22, 3] := by simpa using Array.mem_of_getElem? ht
  have hall : ([22, 3].all fun u => !Tryd.prog.wantsStandIn u) = true := by kernel_rfl
  exact (show Tryd.prog.wantsStandIn t = false by simpa using List.all_eq_true.1 hall t hm)
theorem card : Rows.PartitionOfCardSaid :=
  Claim7.holds_tied_plain_at .later [] _ _ _ _ said (fun _ h => by cases h) (by kernel_rfl) (fun _ h => by cases h) partitionOf_row_tie rfl ⟨rfl, rfl⟩ (by kernel_rfl) rfl plain (by kernel_rfl)
#print axioms card
end Go.Proofs.YtichhbnpdhfimaaDoor.partitionOf
