/- SignatureChecks (P4.1): any signature has the specified error, and any string is or is not a name or a reserved word as specified. Conditions: the package variables that the row lists hold what the program's text lays in them. -/
import Derived.Test.YtichhbnpdhfimaaDoorSx
import Derived.Deep.RegionHeld3
namespace Go.Proofs.YtichhbnpdhfimaaDoor.signatureChecks
open Go.ChangeShapes Go.WideShapes Go.ChangeAt Go.RowKit Go.Proofs.YtichhbnpdhfimaaDoor Go.Proofs.YtichhbnpdhfimaaDoor.sig Go.Proofs.Ws
open Go.ChangeMaps (open_string shut_string)

set_option maxRecDepth 100000 in
set_option maxHeartbeats 2000000 in
theorem walk_many (a0 : Option Addr) (n0 c0 : Nat) (a1 : Option Addr) (n1 c1 : Nat) (a2 : Option Addr) (n2 c2 : Nat) (t : ByteArray) (w : World) (h0 : n0 ≤ maxLen) (h1 : n1 ≤ maxLen) (h2 : n2 ≤ maxLen) (hE : EnvS w) (hf : (decide (n0 ≤ 12) && decide (n1 ≤ 12) && decide (n2 ≤ 12)) = false) :
    Calls Tryd.prog 5 #[.agg #[.slice a0 n0 c0, .slice a1 n1 c1, .slice a2 n2 c2], .string t] w fun e w' => e = .returned (.bool true) ∧ Below w.heap.size w w' := by
  have HX := Lib.hid (@boxed w a0 a1 a2 n0 c0 n1 c1 n2 c2 39)
  have HF := Lib.hid (fun W => hf ▸ pFew_any a0 a1 a2 n0 c0 n1 c1 n2 c2 W h0 h1 h2)
  have hb0 : Below (w.heap.size + 1) (w.alloc (.cells #[.slice a0 n0 c0, .slice a1 n1 c1, .slice a2 n2 c2] 39)) (w.alloc (.cells #[.slice a0 n0 c0, .slice a1 n1 c1, .slice a2 n2 c2] 39)) := Below.refl _ _
  have HG : Hid (∀ W, Below (w.heap.size + 1) (w.alloc (.cells #[.slice a0 n0 c0, .slice a1 n1 c1, .slice a2 n2 c2] 39)) W → EnvS W ∧ Below w.heap.size w W ∧ w.heap.size + 1 ≤ W.heap.size) := Lib.hid (fun W hW => by
    have h1 : Below w.heap.size w W := ((Below.refl _ w).alloc (Nat.le_refl _) _).trans (hW.mono (by omega))
    exact ⟨hE.below h1, h1, by have := hW.size; simpa using this⟩)
  have HB0 := Lib.hid hb0
  clear hE h0 h1 h2 hf hb0
  go_enter Tryd.func5, Tryd.ntmps5
  go_wp2_with fail
  refine (awakeS_any _ (HG.out _ HB0.out).1).mono ?_
  rintro e w1 ⟨rfl, hb⟩
  have HB : Hid (Below (w.heap.size + 1) (w.alloc (.cells #[.slice a0 n0 c0, .slice a1 n1 c1, .slice a2 n2 c2] 39)) w1) := Lib.hid (HB0.out.trans (hb.mono (by simp)))
  have hc := HX.out w1 HB.out
  obtain ⟨hc0, hc1, hc2⟩ := hc
  clear hb
  go_wp2_with fail
  refine (HF.out _).mono ?_
  rintro e w2 ⟨rfl, hb⟩
  have HB2 : Hid (Below (w.heap.size + 1) (w.alloc (.cells #[.slice a0 n0 c0, .slice a1 n1 c1, .slice a2 n2 c2] 39)) w2) := Lib.hid (HB.out.trans (hb.mono (HG.out _ HB.out).2.2))
  clear hb hc0 hc1 hc2
  go_wp2_with fail
  refine (awakeS_any _ (HG.out _ HB2.out).1).mono ?_
  rintro e w3 ⟨rfl, hb⟩
  have HB3 : Hid (Below (w.heap.size + 1) (w.alloc (.cells #[.slice a0 n0 c0, .slice a1 n1 c1, .slice a2 n2 c2] 39)) w3) := Lib.hid (HB2.out.trans (hb.mono (HG.out _ HB2.out).2.2))
  clear hb
  go_wp2
  go_ret
  exact ⟨rfl, (HG.out _ HB3.out).2.1⟩

set_option maxRecDepth 100000 in
set_option maxHeartbeats 4000000 in
theorem walk_few (a0 : Option Addr) (n0 c0 : Nat) (a1 : Option Addr) (n1 c1 : Nat) (a2 : Option Addr) (n2 c2 : Nat) (A F X : List ByteArray) (t : ByteArray) (w : World) (hS : SigR w w.heap.size (.agg #[.slice a0 n0 c0, .slice a1 n1 c1, .slice a2 n2 c2]) A F X) (hE : EnvS w) (f0 : n0 ≤ 12) (f1 : n1 ≤ 12) (f2 : n2 ≤ 12) (ht : t.size ≤ maxLen) :
    Calls Tryd.prog 5 #[.agg #[.slice a0 n0 c0, .slice a1 n1 c1, .slice a2 n2 c2], .string t] w fun e w' => e = .returned (.bool true) ∧ Below w.heap.size w w' := by
  have HX := Lib.hid (@boxed w a0 a1 a2 n0 c0 n1 c1 n2 c2 39)
  have HF := Lib.hid (fun W => (show (decide (n0 ≤ 12) && decide (n1 ≤ 12) && decide (n2 ≤ 12)) = true by simp [f0, f1, f2]) ▸ pFew_any a0 a1 a2 n0 c0 n1 c1 n2 c2 W (by unfold maxLen; omega) (by unfold maxLen; omega) (by unfold maxLen; omega))
  have HG : Hid (∀ W, Below (w.heap.size + 1) (w.alloc (.cells #[.slice a0 n0 c0, .slice a1 n1 c1, .slice a2 n2 c2] 39)) W → EnvS W ∧ SigR W W.heap.size (.agg #[.slice a0 n0 c0, .slice a1 n1 c1, .slice a2 n2 c2]) A F X ∧ Below w.heap.size w W ∧ w.heap.size + 1 ≤ W.heap.size) := Lib.hid (fun W hW => by
    have h1 : Below w.heap.size w W := ((Below.refl _ w).alloc (Nat.le_refl _) _).trans (hW.mono (by omega))
    exact ⟨hE.below h1, hS.on h1, h1, by have := hW.size; simpa using this⟩)

  have htm := ht
  unfold maxLen at ht
  clear hS hE
  go_enter Tryd.func5, Tryd.ntmps5
  go_wp2_with fail
  refine (awakeS_any _ (HG.out _ (Below.refl _ _)).1).mono ?_
  rintro e w1 ⟨rfl, hb⟩
  have HB : Hid (Below (w.heap.size + 1) (w.alloc (.cells #[.slice a0 n0 c0, .slice a1 n1 c1, .slice a2 n2 c2] 39)) w1) := Lib.hid ((Below.refl _ _).trans (hb.mono (by simp)))
  have hc := HX.out w1 HB.out
  obtain ⟨hc0, hc1, hc2⟩ := hc
  clear hb
  go_wp2_with fail
  refine (HF.out _).mono ?_
  rintro e w2 ⟨rfl, hb⟩
  have HB2 : Hid (Below (w.heap.size + 1) (w.alloc (.cells #[.slice a0 n0 c0, .slice a1 n1 c1, .slice a2 n2 c2] 39)) w2) := Lib.hid (HB.out.trans (hb.mono (HG.out _ HB.out).2.2.2))
  clear hb hc0 hc1 hc2 HF HB
  by_cases h100 : 100 < t.size
  · have hd : decide ((100 : Int) < (t.size : Int)) = true := by simp; omega
    clear h100
    go_wp2_with fail
    refine (awakeS_any _ (HG.out _ HB2.out).1).mono ?_
    rintro e w4 ⟨rfl, hb⟩
    have HB4 : Hid (Below (w.heap.size + 1) (w.alloc (.cells #[.slice a0 n0 c0, .slice a1 n1 c1, .slice a2 n2 c2] 39)) w4) := Lib.hid (HB2.out.trans (hb.mono (HG.out _ HB2.out).2.2.2))
    clear hb
    go_wp2
    go_ret
    exact ⟨rfl, (HG.out _ HB4.out).2.2.1⟩
  · have hd : decide ((100 : Int) < (t.size : Int)) = false := by simp; omega
    obtain ⟨z, hz⟩ : ∃ z, sigErr A F X = z := ⟨_, rfl⟩
    obtain ⟨b1, hb1⟩ : ∃ b, nameV t = b := ⟨_, rfl⟩
    obtain ⟨b2, hb2⟩ : ∃ b, resV t = b := ⟨_, rfl⟩
    have HS : Hid (∀ W, Below (w.heap.size + 1) (w.alloc (.cells #[.slice a0 n0 c0, .slice a1 n1 c1, .slice a2 n2 c2] 39)) W → (W.cell? ⟨w.heap.size, 0, none⟩ = some (.slice a0 n0 c0) ∧ W.cell? ⟨w.heap.size, 1, none⟩ = some (.slice a1 n1 c1) ∧ W.cell? ⟨w.heap.size, 2, none⟩ = some (.slice a2 n2 c2) ∧ Hid (Below (w.heap.size + 1) (w.alloc (.cells #[.slice a0 n0 c0, .slice a1 n1 c1, .slice a2 n2 c2] 39)) W))) := Lib.hid (fun W hW => ⟨(HX.out W hW).1, (HX.out W hW).2.1, (HX.out W hW).2.2, Lib.hid hW⟩)
    have K1 : Hid (∀ W, Hid (Below (w.heap.size + 1) (w.alloc (.cells #[.slice a0 n0 c0, .slice a1 n1 c1, .slice a2 n2 c2] 39)) W) → Calls Tryd.prog 27 #[.agg #[.slice a0 n0 c0, .slice a1 n1 c1, .slice a2 n2 c2]] W fun e W' => e = .returned (.int .i64 z) ∧ (W'.cell? ⟨w.heap.size, 0, none⟩ = some (.slice a0 n0 c0) ∧ W'.cell? ⟨w.heap.size, 1, none⟩ = some (.slice a1 n1 c1) ∧ W'.cell? ⟨w.heap.size, 2, none⟩ = some (.slice a2 n2 c2) ∧ Hid (Below (w.heap.size + 1) (w.alloc (.cells #[.slice a0 n0 c0, .slice a1 n1 c1, .slice a2 n2 c2] 39)) W'))) := Lib.hid (fun W hW => by
      refine (pSigCheck_any _ A F X W (HG.out _ hW.out).2.1 (HG.out _ hW.out).1).mono fun e w' ⟨h1, h2⟩ => ⟨by rw [h1, hz], HS.out _ (hW.out.trans (h2.mono (HG.out _ hW.out).2.2.2))⟩)
    have K2 : Hid (∀ W, Hid (Below (w.heap.size + 1) (w.alloc (.cells #[.slice a0 n0 c0, .slice a1 n1 c1, .slice a2 n2 c2] 39)) W) → Calls Tryd.prog 28 #[.agg #[.slice a0 n0 c0, .slice a1 n1 c1, .slice a2 n2 c2]] W fun e W' => e = .returned (.int .i64 z) ∧ (W'.cell? ⟨w.heap.size, 0, none⟩ = some (.slice a0 n0 c0) ∧ W'.cell? ⟨w.heap.size, 1, none⟩ = some (.slice a1 n1 c1) ∧ W'.cell? ⟨w.heap.size, 2, none⟩ = some (.slice a2 n2 c2) ∧ Hid (Below (w.heap.size + 1) (w.alloc (.cells #[.slice a0 n0 c0, .slice a1 n1 c1, .slice a2 n2 c2] 39)) W'))) := Lib.hid (fun W hW => by
      refine (pRefSigCheck_any _ A F X W (HG.out _ hW.out).2.1).mono fun e w' ⟨h1, h2⟩ => ⟨by rw [h1, hz], HS.out _ (hW.out.trans (h2.mono (HG.out _ hW.out).2.2.2))⟩)
    have K3 : Hid (∀ W, Calls Tryd.prog 29 #[.string t] W fun e W' => e = .returned (.bool b1) ∧ W = W') := Lib.hid (fun W => hb1 ▸ pIsName_any t W htm)
    have K4 : Hid (∀ W, Calls Tryd.prog 30 #[.string t] W fun e W' => e = .returned (.bool b1) ∧ W = W') := Lib.hid (fun W => hb1 ▸ pRefIsName_any t W htm)
    have K5 : Hid (∀ W, Hid (Below (w.heap.size + 1) (w.alloc (.cells #[.slice a0 n0 c0, .slice a1 n1 c1, .slice a2 n2 c2] 39)) W) → Calls Tryd.prog 31 #[.string t] W fun e W' => e = .returned (.bool b2) ∧ W = W') := Lib.hid (fun W hW => hb2 ▸ pReserved_any t W (HG.out _ hW.out).1)
    have K6 : Hid (∀ W, Calls Tryd.prog 32 #[.string t] W fun e W' => e = .returned (.bool b2) ∧ W = W') := Lib.hid (fun W => hb2 ▸ pRefReserved_any t W)
    have q1 : (z == z) = true := by simp
    have q2 : (b1 == b1) = true := by simp
    have q3 : (b2 == b2) = true := by simp
    have hS2 := HS.out _ HB2.out
    obtain ⟨hc0, hc1, hc2, hc3⟩ := hS2
    have hc4 : Hid (Below (w.heap.size + 1) (w.alloc (.cells #[.slice a0 n0 c0, .slice a1 n1 c1, .slice a2 n2 c2] 39)) w2.drew) := Lib.hid HB2.out.drew
    clear hz hb1 hb2 h100 htm ht
    go_wp2_with fail
    go_region_held3 (fun W => (W.cell? ⟨w.heap.size, 0, none⟩ = some (.slice a0 n0 c0) ∧ W.cell? ⟨w.heap.size, 1, none⟩ = some (.slice a1 n1 c1) ∧ W.cell? ⟨w.heap.size, 2, none⟩ = some (.slice a2 n2 c2) ∧ Hid (Below (w.heap.size + 1) (w.alloc (.cells #[.slice a0 n0 c0, .slice a1 n1 c1, .slice a2 n2 c2] 39)) W))) (first | assumption | (refine ⟨?_, ?_, ?_, ?_⟩ <;> assumption) | go_keep)
      (first
        | (go_at_call 27; refine (K1.out _ ?_).mono ?_; (first | assumption | simp [*]); rintro e W' ⟨rfl, h1, h2, h3, h4⟩)
        | (go_at_call 28; refine (K2.out _ ?_).mono ?_; (first | assumption | simp [*]); rintro e W' ⟨rfl, h1, h2, h3, h4⟩)
        | (go_at_call 29; refine (K3.out _).mono ?_; rintro e W' ⟨rfl, rfl⟩)
        | (go_at_call 30; refine (K4.out _).mono ?_; rintro e W' ⟨rfl, rfl⟩)
        | (go_at_call 31; refine (K5.out _ ?_).mono ?_; (first | assumption | simp [*]); rintro e W' ⟨rfl, rfl⟩)
        | (go_at_call 32; refine (K6.out _).mono ?_; rintro e W' ⟨rfl, rfl⟩))
    all_goals go_wp2
    all_goals go_ret
    all_goals (refine ⟨rfl, (HG.out _ (Hid.out (p := Below (w.heap.size + 1) (w.alloc (.cells #[.slice a0 n0 c0, .slice a1 n1 c1, .slice a2 n2 c2] 39)) _) ?_)).2.2.1⟩; assumption)
theorem walk (a0 : Option Addr) (n0 c0 : Nat) (a1 : Option Addr) (n1 c1 : Nat) (a2 : Option Addr) (n2 c2 : Nat) (A F X : List ByteArray) (t : ByteArray) (w : World) (s0 : SL0 w a0 n0 c0 A) (s1 : SL0 w a1 n1 c1 F) (s2 : SL0 w a2 n2 c2 X) (ht : t.size ≤ maxLen) (hE : EnvS w) :
    Calls Tryd.prog 5 #[sv a0 n0 c0 a1 n1 c1 a2 n2 c2, .string t] w fun e w' => e = .returned (.bool true) ∧ Below w.heap.size w w' := by
  by_cases hf : n0 ≤ 12 ∧ n1 ≤ 12 ∧ n2 ≤ 12
  · exact walk_few a0 n0 c0 a1 n1 c1 a2 n2 c2 A F X t w ⟨_, _, _, _, _, _, _, _, _, rfl, s0.small (by omega), s1.small (by omega), s2.small (by omega)⟩ hE hf.1 hf.2.1 hf.2.2 ht
  · refine walk_many a0 n0 c0 a1 n1 c1 a2 n2 c2 t w s0.2.2.1 s1.2.2.1 s2.2.2.1 hE ?_
    by_cases h0 : n0 ≤ 12 <;> by_cases h1 : n1 ≤ 12 <;> by_cases h2 : n2 ≤ 12 <;> simp [h0, h1, h2]
    exact hf ⟨h0, h1, h2⟩
set_option maxRecDepth 100000 in
theorem contract (H : Type) (enc : TypeId × Value → H) (W : World) (base : Nat) (args : Array Value) (ds gs : List (DataW H)) (before : List MemPlace)
    (hval : ∀ (j : Nat) t v, Tryd.f5.params[j]? = some t → args[j]? = some v → Value.okWide Tryd.prog W .any base t v)
    (hW : DataW.Whole enc Tryd.prog Tryd.f5.params.toList Rows.signatureChecksSpec.vars false W args.toList ds gs before) (hE : EnvS W) :
    Calls Tryd.prog 5 args W fun e W' => ∃ v, e = .returned v ∧ Rows.signatureChecksSpec.post enc Tryd.prog Tryd.f5 false true false false W args v W' := by
  have hW' := hW
  obtain ⟨p, q, hA0, hV, rfl, hfz, hnd⟩ := hW
  have hA : DataW.TrodAll enc Tryd.prog W 0 (fun _ => true) true Tryd.f5.params.toList args.toList ds p := hA0
  rw [Tryd.params5] at hA hval
  obtain ⟨v0, vs0, d0, ds0, p0, q0, hargs, rfl, rfl, h0, r0⟩ := trodAll_cons hA
  obtain ⟨v1, vs1, d1, ds1, p1, q1, rfl, rfl, rfl, h1, r1⟩ := trodAll_cons r0
  obtain ⟨rfl, rfl, rfl⟩ := trodAll_nil r1
  obtain rfl : args = #[v0, v1] := by cases args; simp_all
  obtain ⟨rfl, rfl⟩ := trodVars_none hV
  obtain ⟨a0, n0, c0, a1, n1, c1, a2, n2, c2, A, F, X, rfl, s0, s1, s2⟩ := open_sig (hval 0 39 v0 rfl rfl) h0
  have k0 := h0
  have lt0 : ∀ x ∈ p0, x.block < W.heap.size := by obtain ⟨m, hm⟩ := k0; exact DataW.trod_lt m _ _ _ hm
  obtain ⟨t, rfl, rfl, rfl, w1⟩ := open_string Tryd.underlying9 (hval 1 9 v1 rfl rfl) h1
  clear hA0
  simp only [List.append_nil] at hW'
  have hwalk := walk a0 n0 c0 a1 n1 c1 a2 n2 c2 A F X t W s0 s1 s2 w1 hE
  refine hwalk.mono fun e W' ⟨he, hg⟩ => ?_
  subst he
  exact ⟨_, rfl, _, _, _, [], _, [], hW', trodAll_mk1 (shut_bool Tryd.underlying4 _), (trodAll_cons_mk (Below.trod laidOut (by kernel_rfl) (of_decide_eq_true (by kernel_rfl)) k0 hg lt0) (trodAll_cons_mk (shut_string Tryd.underlying9 w1) trodAll_mk0)), rfl, hg.frame _, fun h => by cases h⟩
theorem reads (os : Os) {H : Type} (enc : TypeId × Value → H) : ∃ places, DataW.whole enc Tryd.prog ((laidW os).forCall (fun _ _ => 0) ⟨#[], #[.agg #[.slice none 0 0, .slice none 0 0, .slice none 0 0], .string ⟨#[]⟩], []⟩).memory Tryd.f5.params.toList Rows.signatureChecksSpec.vars false #[(.agg #[.slice none 0 0, .slice none 0 0, .slice none 0 0] : Value), (.string ⟨#[]⟩ : Value)].toList 8 = some ([.agg [.nil, .nil, .nil], .lit (.string [])], [], places) :=
  ⟨[], by kernel_rfl⟩
set_option maxRecDepth 100000 in
theorem lifted (os : Os) (started : os.Started) (H : Type) (enc : TypeId × Value → H) (F : Stop.Interp) :
    ReturnsInHanded {} Tryd.checked os 5 .any ((OpenSpec.ofChange Rows.signatureChecksSpec).preRow enc Tryd.prog Tryd.f5 Rows.signatureChecksRow.domain false Rows.signatureChecksRow.laid) (((OpenSpec.ofChange Rows.signatureChecksSpec).at F).post enc Tryd.prog Tryd.f5 false true false false) := by
  obtain ⟨places, hx⟩ := reads os enc
  refine returnsInHanded_of_row (C := Tryd.checked) (s := OpenSpec.ofChange Rows.signatureChecksSpec) own started (by kernel_rfl) Tryd.func5
    (witness_row_atRef (enc := enc) (C := Tryd.checked) false (laidW os) #[.agg #[.slice none 0 0, .slice none 0 0, .slice none 0 0], .string ⟨#[]⟩] (laidW_os os) (vars_ok os _) (heap_ok os _) (by kernel_rfl)
      (OpenSpec.preRow_of_cond 8 hx (by kernel_rfl) (fun k hk => by cases hk) (by kernel_rfl) (laid_met os _))) ?_
  intro W base args ds gs before hval hW _ _ _ hL hsh _
  exact contract H enc W base args ds gs before hval hW (env_of hL hsh)
theorem said : Rows.SignatureChecksSaid :=
  OpenClaim.holds_of_cond 5 Tryd.f5 rfl rfl rfl rfl rfl rfl rfl ⟨rfl, rfl, rfl, rfl, rfl⟩ rfl rfl rfl rfl rfl (by kernel_rfl) Tryd.func5 (by kernel_rfl)
    (of_decide_eq_true (by kernel_rfl)) (by unfold Func.isWrapper; first | (rw [if_pos (by decide +kernel)]; kernel_rfl) | (rw [if_neg (by decide +kernel)]; exact ⟨rfl, rfl⟩))
    (fun os started H enc _ F => by rw [OpenClaim.pre_eq_preRow]; exact lifted os started H enc F)
theorem plain (f : FuncId) (fn : Func) (hf : Tryd.pinned.checked.prog.funcNamed "witting/wittinglaw04.SignatureChecks" = some f) (hfn : Tryd.pinned.checked.prog.funcs[f]? = some fn) :
    false = Tryd.pinned.checked.prog.looks [] ∧ ∀ (j : Nat) t, fn.params[j]? = some t → Tryd.pinned.checked.prog.wantsStandIn t = false := by
  obtain rfl : f = 5 := Option.some.inj ((show Tryd.prog.funcNamed "witting/wittinglaw04.SignatureChecks" = some 5 by kernel_rfl).symm.trans hf) |>.symm
  obtain rfl : fn = Tryd.f5 := (Option.some.inj (Tryd.func5.symm.trans hfn)).symm
  refine ⟨no_looks, fun j t ht => ?_⟩
  rw [Tryd.params5] at ht
  have hm : t ∈ [39, 9] := by simpa using Array.mem_of_getElem? ht
  have hall : ([39, 9].all fun u => !Tryd.prog.wantsStandIn u) = true := by kernel_rfl
  exact (show Tryd.prog.wantsStandIn t = false by simpa using List.all_eq_true.1 hall t hm)
theorem card : Rows.SignatureChecksCardSaid :=
  Claim7.holds_tied_plain_at .later [] _ _ _ _ said (fun _ h => by cases h) (by kernel_rfl) (fun _ h => by cases h) signatureChecks_row_tie rfl ⟨rfl, rfl⟩ (by kernel_rfl) rfl plain (by kernel_rfl)
#print axioms card
end Go.Proofs.YtichhbnpdhfimaaDoor.signatureChecks
