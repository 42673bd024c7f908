/- WorldsetChoices (P1.6): from the first set on, all sets of k worlds below n are listed, each once, as many as the binomial coefficient says (n up to 12). Conditions: the package variables that the row lists hold what the program's text lays in them. -/
import Derived.Test.YtnkjcieeckibbaaDoorWp
import Derived.Test.YtnkjcieeckibbaaDoorWq
import Derived.Test.YtnkjcieeckibbaaDoorBm7
namespace Go.Proofs.YtnkjcieeckibbaaDoor.worldsetChoices
open Go.ChangeShapes Go.WideShapes Go.ChangeAt Go.RowKit Go.Proofs.YtnkjcieeckibbaaDoor Go.Proofs.Ws
theorem bin_step (N K i : Nat) (hK : K ≤ N) (hi : i < K) : ((bin N i : Nat) : Int) * ((N : Int) - (i : Int)) / ((i : Int) + 1) = ((bin N (i + 1) : Nat) : Int) := by
  rw [bin, show ((N : Int) - (i : Int)) = ((N - i : Nat) : Int) from by omega]
  simp
theorem bin_bound (N K i : Nat) (hN : N ≤ 12) (hK : K ≤ N) (hi : i < K) : 0 ≤ ((bin N i : Nat) : Int) * ((N : Int) - (i : Int)) ∧ ((bin N i : Nat) : Int) * ((N : Int) - (i : Int)) ≤ 12000 := by
  have h1 := (bin_le N i hN (by omega)).1
  rw [show ((N : Int) - (i : Int)) = ((N - i : Nat) : Int) from by omega, ← Int.natCast_mul]
  have h2 : bin N i * (N - i) ≤ 1000 * 12 := Nat.mul_le_mul h1 (by omega)
  omega
set_option maxRecDepth 100000 in
set_option maxHeartbeats 3200000 in
theorem walk (a b : Nat) (w : World) (ha : a < 256) (hb : b < 256) (hE : Env w) :
    Calls Tryd.prog 8 #[.int .u8 a, .int .u8 b] w fun e w' => e = .returned (.bool true) ∧ Below w.heap.size w w' := by
  obtain ⟨N, hN⟩ : ∃ N, N = a % 13 := ⟨_, rfl⟩
  obtain ⟨K, hK⟩ : ∃ K, K = b % (N + 1) := ⟨_, rfl⟩
  have hN12 : N ≤ 12 := by omega
  have hKN : K ≤ N := by have := Nat.mod_lt b (show N + 1 > 0 by omega); omega
  have eN : (a : Int) % 13 = (N : Int) := by omega
  have eK : (b : Int) % ((N : Int) + 1) = (K : Int) := by rw [hK]; simp
  have HE := Lib.hid hE
  clear hN hK hE
  go_enter Tryd.func8, Tryd.ntmps8
  go_wp2
  simp only [eN, eK]
  clear eN eK
  go_loop [7, 23] (fun wv i => ∃ j : Nat, j ≤ K ∧ i = .int .i64 j ∧ wv = .int .i64 ((bin N j : Nat) : Int)) (fun _ i => K - (intOf i).toNat)
  case atStart => exact ⟨0, Nat.zero_le _, rfl, rfl⟩
  case round =>
    obtain ⟨j, hj, rfl, rfl⟩ := hrel
    by_cases hlt : j < K
    · have hst := bin_step N K j hKN hlt
      have hb1 := (bin_bound N K j hN12 hKN hlt).1
      have hb2 := (bin_bound N K j hN12 hKN hlt).2
      have HST := Lib.hid hst
      clear hst
      go_wp2
      go_round
      case rel => exact ⟨j + 1, by omega, by go_num, by rw [← HST.out]⟩
      case measure => simp [intOf]; omega
    · have hjK : j = K := by omega
      subst hjK
      have hW := bin_le N j hN12 hKN
      have HCH := Lib.hid (chk_all N j hN12 hKN)
      obtain ⟨M, hM⟩ : ∃ M, M = bin N j := ⟨_, rfl⟩
      have HF : Hid (Calls Tryd.prog 31 #[.int .i64 N, .int .i64 j] w fun e w' => e = .returned (.tuple #[.int .u64 ((2 ^ j - 1 : Nat) : Int), .int .i64 0]) ∧ w = w') := Lib.hid
        ((first_any N j w).mono fun _ _ ⟨h, h'⟩ => ⟨by rw [h, show firstV N j = (2 ^ j - 1, 0) from by
          unfold firstV allV
          rw [if_neg (by omega), if_pos ⟨by omega, by omega⟩]; rfl], h'⟩)
      rw [← hM] at HCH hW
      rw [← hM]
      obtain ⟨s0, hs0⟩ : ∃ s0, s0 = 2 ^ j - 1 := ⟨_, rfl⟩
      rw [← hs0] at HF HCH
      have hM1 := hW.1
      have hM2 := hW.2
      clear hM hs0 hW
      go_wp2_with fail
      refine (HF.out).mono ?_
      rintro e w' ⟨rfl, rfl⟩
      go_wp2
      go_loop [9, 11] (fun sv i => ∃ i' s : Nat, 1 ≤ i' ∧ i' ≤ M + 1 ∧ i = .int .i64 i' ∧ sv = .int .u64 s ∧ Hid (chk N j (M + 1 - i') s = true)) (fun _ i => M + 1 - (intOf i).toNat)
      case atStart => exact ⟨1, s0, by omega, by omega, rfl, rfl, Lib.hid (by rw [show M + 1 - 1 = M from by omega]; exact HCH.out)⟩
      case round =>
        obtain ⟨i, s, hi1, hi2, rfl, rfl, Hc⟩ := hrel
        by_cases hle : i ≤ M
        · have hc := Hc.out
          rw [show M + 1 - i = (M - i) + 1 from by omega, chk] at hc
          simp only [Bool.and_eq_true, decide_eq_true_eq, beq_iff_eq] at hc
          obtain ⟨⟨⟨⟨q1, q2⟩, q3⟩, q4⟩, q5⟩ := hc
          have hs : s < 18446744073709551616 := by
            have : 2 ^ N ≤ 2 ^ 64 := Nat.pow_le_pow_right (by decide) (by omega)
            omega
          have HBI : Hid (Calls Tryd.prog 41 #[.int .u64 s] w fun e w' => e = .returned (.int .i64 j) ∧ w = w') := Lib.hid
            ((bits_any s w hs).mono fun _ _ ⟨h, h'⟩ => ⟨by rw [h, q1], h'⟩)
          obtain ⟨t, ht⟩ : ∃ t, t = (nextV N s).1 := ⟨_, rfl⟩
          rw [← ht] at q4 q5
          have hjj : ((j : Int) != (j : Int)) = false := by simp
          have hsh : ((s : Int) / 2 ^ N != 0) = false := by
            rw [show ((s : Int) / 2 ^ N) = ((s / 2 ^ N : Nat) : Int) from by simp, Nat.div_eq_of_lt q2]; rfl
          have HC2 : Hid (chk N j (M + 1 - (i + 1)) t = true) := Lib.hid (by rw [show M + 1 - (i + 1) = M - i from by omega]; exact q5)
          by_cases hlast : i < M
          · have hlt3 : s < t := by
              simp only [Bool.or_eq_true, decide_eq_true_eq] at q4
              rcases q4 with h | h
              · omega
              · exact h
            have HNX : Hid (Calls Tryd.prog 33 #[.int .i64 N, .int .u64 s] w fun e w' => e = .returned (.tuple #[.int .u64 t, .bool true]) ∧ w = w') := Lib.hid
              ((next_any N s w hs HE.out.1).mono fun _ _ ⟨h, h'⟩ => ⟨by rw [h, q3, ← ht, decide_eq_true (by omega)], h'⟩)
            have hd : decide (i < M) = true := decide_eq_true hlast
            have hd2 : decide (t ≤ s) = false := decide_eq_false (by omega)
            clear q1 q2 q3 q4 q5 hs ht
            go_wp2_with fail
            refine (HBI.out).mono ?_
            rintro e w' ⟨rfl, rfl⟩
            go_wp2_with fail
            refine (HNX.out).mono ?_
            rintro e w' ⟨rfl, rfl⟩
            go_wp2
            go_round
            case rel => exact ⟨i + 1, t, by omega, by omega, by go_num, rfl, HC2⟩
            case measure => simp [intOf]; omega
          · have HNX : Hid (Calls Tryd.prog 33 #[.int .i64 N, .int .u64 s] w fun e w' => e = .returned (.tuple #[.int .u64 t, .bool false]) ∧ w = w') := Lib.hid
              ((next_any N s w hs HE.out.1).mono fun _ _ ⟨h, h'⟩ => ⟨by rw [h, q3, ← ht, decide_eq_false (by omega)], h'⟩)
            have hd : decide (i < M) = false := decide_eq_false hlast
            clear q1 q2 q3 q4 q5 hs ht
            go_wp2_with fail
            refine (HBI.out).mono ?_
            rintro e w' ⟨rfl, rfl⟩
            go_wp2_with fail
            refine (HNX.out).mono ?_
            rintro e w' ⟨rfl, rfl⟩
            go_wp2
            go_round
            case rel => exact ⟨i + 1, t, by omega, by omega, by go_num, rfl, HC2⟩
            case measure => simp [intOf]; omega
        · have HA := Lib.hid (awake_any w HE.out)
          go_wp2_with fail
          refine (HA.out).mono ?_
          rintro e w4 ⟨rfl, hb⟩
          have HB4 := Lib.hid hb
          clear hb
          go_wp2
          go_ret
          exact ⟨rfl, HB4.out⟩
set_option maxRecDepth 100000 in
theorem contract (H : Type) (enc : TypeId × Value → H) (W : World) (base : Nat) (args : Array Value) (ds gs : List (DataW H)) (before : List MemPlace)
    (hval : ∀ (j : Nat) t v, Tryd.f8.params[j]? = some t → args[j]? = some v → Value.okWide Tryd.prog W .any base t v)
    (hW : DataW.Whole enc Tryd.prog Tryd.f8.params.toList Rows.worldsetChoicesSpec.vars false W args.toList ds gs before) (hE : Env W) :
    Calls Tryd.prog 8 args W fun e W' => ∃ v, e = .returned v ∧ Rows.worldsetChoicesSpec.post enc Tryd.prog Tryd.f8 false true false false W args v W' := by
  have hW' := hW
  obtain ⟨p, q, hA0, hV, rfl, hfz, hnd⟩ := hW
  have hA : DataW.TrodAll enc Tryd.prog W 0 (fun _ => true) true Tryd.f8.params.toList args.toList ds p := hA0
  rw [Tryd.params8] at hA hval
  obtain ⟨v0, vs0, d0, ds0, p0, q0, hargs, rfl, rfl, h0, r0⟩ := trodAll_cons hA
  obtain ⟨v1, vs1, d1, ds1, p1, q1, rfl, rfl, rfl, h1, r1⟩ := trodAll_cons r0
  obtain ⟨rfl, rfl, rfl⟩ := trodAll_nil r1
  obtain rfl : args = #[v0, v1] := by cases args; simp_all
  obtain ⟨rfl, rfl⟩ := trodVars_none hV
  obtain ⟨a0, rfl, rfl, rfl, w0⟩ := open_int Tryd.underlying5 (hval 0 5 v0 rfl rfl) h0
  obtain ⟨a1, rfl, rfl, rfl, w1⟩ := open_int Tryd.underlying5 (hval 1 5 v1 rfl rfl) h1
  clear hA0
  simp only [List.append_nil] at hW'
  have b0 := bounds_u8 w0
  have b1 := bounds_u8 w1
  obtain ⟨a, rfl⟩ := Int.eq_ofNat_of_zero_le b0.1
  obtain ⟨b, rfl⟩ := Int.eq_ofNat_of_zero_le b1.1
  refine (walk a b W (by omega) (by omega) hE).mono fun e W' ⟨he, hg⟩ => ?_
  subst he
  exact ⟨_, rfl, _, _, _, [], _, [], hW', trodAll_mk1 (shut_bool Tryd.underlying4 _), (trodAll_cons_mk (shut_int Tryd.underlying5 w0) (trodAll_cons_mk (shut_int Tryd.underlying5 w1) trodAll_mk0)), rfl, hg.frame _, fun h => by cases h⟩
theorem reads (os : Os) {H : Type} (enc : TypeId × Value → H) : ∃ places, DataW.whole enc Tryd.prog ((laidW os).forCall (fun _ _ => 0) ⟨#[], #[.int .u8 0, .int .u8 0], []⟩).memory Tryd.f8.params.toList Rows.worldsetChoicesSpec.vars false #[Value.int .u8 0, Value.int .u8 0].toList 8 = some ([.lit (.int .u8 0), .lit (.int .u8 0)], [], places) :=
  ⟨[], by kernel_rfl⟩
set_option maxRecDepth 100000 in
theorem lifted (os : Os) (started : os.Started) (H : Type) (enc : TypeId × Value → H) (F : Stop.Interp) :
    ReturnsInHanded {} Tryd.checked os 8 .any ((OpenSpec.ofChange Rows.worldsetChoicesSpec).preRow enc Tryd.prog Tryd.f8 Rows.worldsetChoicesRow.domain false Rows.worldsetChoicesRow.laid) (((OpenSpec.ofChange Rows.worldsetChoicesSpec).at F).post enc Tryd.prog Tryd.f8 false true false false) := by
  obtain ⟨places, hx⟩ := reads os enc
  refine returnsInHanded_of_row (C := Tryd.checked) (s := OpenSpec.ofChange Rows.worldsetChoicesSpec) own started (by kernel_rfl) Tryd.func8
    (witness_row_at (enc := enc) (C := Tryd.checked) false (laidW os) #[.int .u8 0, .int .u8 0] (laidW_os os) (vars_ok os _) (heap_ok os _) (by kernel_rfl)
      (OpenSpec.preRow_of_cond 8 hx (by kernel_rfl) (fun k hk => by cases hk) (by kernel_rfl) (laid_met os _))) ?_
  intro W base args ds gs before hval hW _ _ _ hL hsh _
  exact contract H enc W base args ds gs before hval hW (env_of hL hsh)
theorem said : Rows.WorldsetChoicesSaid :=
  OpenClaim.holds_of_cond 8 Tryd.f8 rfl rfl rfl rfl rfl rfl rfl ⟨rfl, rfl, rfl, rfl, rfl⟩ rfl rfl rfl rfl rfl (by kernel_rfl) Tryd.func8 (by kernel_rfl)
    (of_decide_eq_true (by kernel_rfl)) (by unfold Func.isWrapper; first | (rw [if_pos (by decide +kernel)]; kernel_rfl) | (rw [if_neg (by decide +kernel)]; exact ⟨rfl, rfl⟩))
    (fun os started H enc _ F => by rw [OpenClaim.pre_eq_preRow]; exact lifted os started H enc F)
theorem plain (f : FuncId) (fn : Func) (hf : Tryd.pinned.checked.prog.funcNamed "witting/wittinglaw01.WorldsetChoices" = some f) (hfn : Tryd.pinned.checked.prog.funcs[f]? = some fn) :
    false = Tryd.pinned.checked.prog.looks [] ∧ ∀ (j : Nat) t, fn.params[j]? = some t → Tryd.pinned.checked.prog.wantsStandIn t = false := by
  obtain rfl : f = 8 := Option.some.inj ((show Tryd.prog.funcNamed "witting/wittinglaw01.WorldsetChoices" = some 8 by kernel_rfl).symm.trans hf) |>.symm
  obtain rfl : fn = Tryd.f8 := (Option.some.inj (Tryd.func8.symm.trans hfn)).symm
  refine ⟨no_looks, fun j t ht => ?_⟩
  rw [Tryd.params8] at ht
  have hm : t ∈ [5, 5] := by simpa using Array.mem_of_getElem? ht
  have hall : ([5, 5].all fun u => !Tryd.prog.wantsStandIn u) = true := by kernel_rfl
  exact (show Tryd.prog.wantsStandIn t = false by simpa using List.all_eq_true.1 hall t hm)
theorem card : Rows.WorldsetChoicesCardSaid :=
  Claim7.holds_tied_plain_at .later [] _ _ _ _ said (fun _ h => by cases h) (by kernel_rfl) (fun _ h => by cases h) worldsetChoices_row_tie rfl ⟨rfl, rfl⟩ (by kernel_rfl) rfl plain (by kernel_rfl)
#print axioms card
end Go.Proofs.YtnkjcieeckibbaaDoor.worldsetChoices
