/- SignatureApart (P4.4): in a valid signature each name is that of exactly one agent, fact or action model, at its place; an action model's name is a name and no reserved word. Conditions: the package variables that the row lists hold what the program's text lays in them. -/
import Derived.Test.YtichhbnpdhfimaaDoorSu
import Derived.Test.YtichhbnpdhfimaaDoorSn
namespace Go.Proofs.YtichhbnpdhfimaaDoor.signatureApart
open Go.ChangeShapes Go.WideShapes Go.ChangeAt Go.RowKit Go.Proofs.YtichhbnpdhfimaaDoor Go.Proofs.YtichhbnpdhfimaaDoor.sig Go.Proofs.Ws
open Go.ChangeMaps (open_string shut_string)

set_option maxRecDepth 100000 in
set_option maxHeartbeats 2000000 in
theorem walk_many (a0 : Option Addr) (n0 c0 : Nat) (a1 : Option Addr) (n1 c1 : Nat) (a2 : Option Addr) (n2 c2 : Nat) (w : World) (h0 : n0 ≤ maxLen) (h1 : n1 ≤ maxLen) (h2 : n2 ≤ maxLen) (hE : EnvS w) (hf : (decide (n0 ≤ 12) && decide (n1 ≤ 12) && decide (n2 ≤ 12)) = false) :
    Calls Tryd.prog 10 #[.agg #[.slice a0 n0 c0, .slice a1 n1 c1, .slice a2 n2 c2]] w fun e w' => e = .returned (.bool true) ∧ Below w.heap.size w w' := by
  have HX := Lib.hid (@boxed w a0 a1 a2 n0 c0 n1 c1 n2 c2 39)
  have HF := Lib.hid (fun W => hf ▸ pFew_any a0 a1 a2 n0 c0 n1 c1 n2 c2 W h0 h1 h2)
  have hb0 : Below (w.heap.size + 1) (w.alloc (.cells #[.slice a0 n0 c0, .slice a1 n1 c1, .slice a2 n2 c2] 39)) (w.alloc (.cells #[.slice a0 n0 c0, .slice a1 n1 c1, .slice a2 n2 c2] 39)) := Below.refl _ _
  have HG : Hid (∀ W, Below (w.heap.size + 1) (w.alloc (.cells #[.slice a0 n0 c0, .slice a1 n1 c1, .slice a2 n2 c2] 39)) W → EnvS W ∧ Below w.heap.size w W ∧ w.heap.size + 1 ≤ W.heap.size) := Lib.hid (fun W hW => by
    have h1 : Below w.heap.size w W := ((Below.refl _ w).alloc (Nat.le_refl _) _).trans (hW.mono (by omega))
    exact ⟨hE.below h1, h1, by have := hW.size; simpa using this⟩)
  have HB0 := Lib.hid hb0
  clear hE h0 h1 h2 hf hb0
  go_enter Tryd.func10, Tryd.ntmps10
  go_wp2_with fail
  refine (awakeS_any _ (HG.out _ HB0.out).1).mono ?_
  rintro e w1 ⟨rfl, hb⟩
  have HB : Hid (Below (w.heap.size + 1) (w.alloc (.cells #[.slice a0 n0 c0, .slice a1 n1 c1, .slice a2 n2 c2] 39)) w1) := Lib.hid (HB0.out.trans (hb.mono (by simp)))
  have hc := HX.out w1 HB.out
  obtain ⟨hc0, hc1, hc2⟩ := hc
  clear hb
  go_wp2_with fail
  refine (HF.out _).mono ?_
  rintro e w2 ⟨rfl, hb⟩
  have HB2 : Hid (Below (w.heap.size + 1) (w.alloc (.cells #[.slice a0 n0 c0, .slice a1 n1 c1, .slice a2 n2 c2] 39)) w2) := Lib.hid (HB.out.trans (hb.mono (HG.out _ HB.out).2.2))
  clear hb hc0 hc1 hc2
  go_wp2_with fail
  refine (awakeS_any _ (HG.out _ HB2.out).1).mono ?_
  rintro e w3 ⟨rfl, hb⟩
  have HB3 : Hid (Below (w.heap.size + 1) (w.alloc (.cells #[.slice a0 n0 c0, .slice a1 n1 c1, .slice a2 n2 c2] 39)) w3) := Lib.hid (HB2.out.trans (hb.mono (HG.out _ HB2.out).2.2))
  clear hb
  go_wp2
  go_ret
  exact ⟨rfl, (HG.out _ HB3.out).2.1⟩

set_option maxRecDepth 100000 in
set_option maxHeartbeats 4000000 in
theorem walk_few (a0 : Option Addr) (n0 c0 : Nat) (a1 : Option Addr) (n1 c1 : Nat) (a2 : Option Addr) (n2 c2 : Nat) (A F X : List ByteArray) (w : World) (hS : SigR w w.heap.size (.agg #[.slice a0 n0 c0, .slice a1 n1 c1, .slice a2 n2 c2]) A F X) (hE : EnvS w) (f0 : n0 ≤ 12) (f1 : n1 ≤ 12) (f2 : n2 ≤ 12) :
    Calls Tryd.prog 10 #[.agg #[.slice a0 n0 c0, .slice a1 n1 c1, .slice a2 n2 c2]] w fun e w' => e = .returned (.bool true) ∧ Below w.heap.size w w' := by
  have HX := Lib.hid (@boxed w a0 a1 a2 n0 c0 n1 c1 n2 c2 39)
  have HF := Lib.hid (fun W => (show (decide (n0 ≤ 12) && decide (n1 ≤ 12) && decide (n2 ≤ 12)) = true by simp [f0, f1, f2]) ▸ pFew_any a0 a1 a2 n0 c0 n1 c1 n2 c2 W (by unfold maxLen; omega) (by unfold maxLen; omega) (by unfold maxLen; omega))
  have HG : Hid (∀ W, Below (w.heap.size + 1) (w.alloc (.cells #[.slice a0 n0 c0, .slice a1 n1 c1, .slice a2 n2 c2] 39)) W → EnvS W ∧ SigR W W.heap.size (.agg #[.slice a0 n0 c0, .slice a1 n1 c1, .slice a2 n2 c2]) A F X ∧ Below w.heap.size w W ∧ w.heap.size + 1 ≤ W.heap.size) := Lib.hid (fun W hW => by
    have h1 : Below w.heap.size w W := ((Below.refl _ w).alloc (Nat.le_refl _) _).trans (hW.mono (by omega))
    exact ⟨hE.below h1, hS.on h1, h1, by have := hW.size; simpa using this⟩)

  obtain ⟨s0, s1, s2⟩ : SL w w.heap.size a0 n0 c0 A ∧ SL w w.heap.size a1 n1 c1 F ∧ SL w w.heap.size a2 n2 c2 X := by
    obtain ⟨b0, m0, d0, b1, m1, d1, b2, m2, d2, e, t0, t1, t2⟩ := hS
    unfold sv at e
    injection e with e
    simp at e
    obtain ⟨⟨rfl, rfl, rfl⟩, ⟨rfl, rfl, rfl⟩, rfl, rfl, rfl⟩ := e
    exact ⟨t0, t1, t2⟩
  have H0 := Lib.hid s0
  have H1 := Lib.hid s1
  have H2 := Lib.hid s2
  clear s0 s1 s2 hS hE
  go_enter Tryd.func10, Tryd.ntmps10
  go_wp2_with fail
  refine (awakeS_any _ (HG.out _ (Below.refl _ _)).1).mono ?_
  rintro e w1 ⟨rfl, hb⟩
  have HB : Hid (Below (w.heap.size + 1) (w.alloc (.cells #[.slice a0 n0 c0, .slice a1 n1 c1, .slice a2 n2 c2] 39)) w1) := Lib.hid ((Below.refl _ _).trans (hb.mono (by simp)))
  have hc := HX.out w1 HB.out
  obtain ⟨hc0, hc1, hc2⟩ := hc
  clear hb
  go_wp2_with fail
  refine (HF.out _).mono ?_
  rintro e w2 ⟨rfl, hb⟩
  have HB2 : Hid (Below (w.heap.size + 1) (w.alloc (.cells #[.slice a0 n0 c0, .slice a1 n1 c1, .slice a2 n2 c2] 39)) w2) := Lib.hid (HB.out.trans (hb.mono (HG.out _ HB.out).2.2.2))
  clear hb hc0 hc1 hc2 HF
  have hc := HX.out w2 HB2.out
  obtain ⟨hc0, hc1, hc2⟩ := hc
  go_wp2_with fail
  refine (pRefSigCheck_any _ A F X _ (HG.out _ HB2.out).2.1).mono ?_
  rintro e w3 ⟨rfl, hb⟩
  have HB3 : Hid (Below (w.heap.size + 1) (w.alloc (.cells #[.slice a0 n0 c0, .slice a1 n1 c1, .slice a2 n2 c2] 39)) w3) := Lib.hid (HB2.out.trans (hb.mono (HG.out _ HB2.out).2.2.2))
  clear hb hc0 hc1 hc2 HB HB2
  by_cases he : sigErr A F X = 0
  · have HAP := Lib.hid (apart_agent he)
    have HEQ := Lib.hid he
    have hq : (sigErr A F X != 0) = false := by rw [he]; rfl
    clear he
    have hc := HX.out w3 HB3.out
    obtain ⟨hc0, hc1, hc2⟩ := hc
    go_wp2
    clear hc0 hc1 hc2 hq
    go_loopw [25] (fun i wr => ∃ k : Nat, k ≤ n0 ∧ i = .int .i64 k ∧ Hid (Below (w.heap.size + 1) (w.alloc (.cells #[.slice a0 n0 c0, .slice a1 n1 c1, .slice a2 n2 c2] 39)) wr)) (fun i _ => n0 - (intOf i).toNat)
    case atStart => exact ⟨0, Nat.zero_le _, rfl, HB3⟩
    case round =>
      clear HB3
      obtain ⟨k, hk, rfl, HBr⟩ := hrel
      by_cases hlt : k < n0
      · obtain ⟨ad, rfl, hbb, hcx0, hxs⟩ := H0.out.at_ hlt
        have hcx := ((HG.out _ HBr.out).2.2.1.cell (p := ad.add k) (by rw [block_of_add]; exact hbb)).trans hcx0
        have HA := Lib.hid (HAP.out.1 k (by rw [H0.out.1.str_len]; exact hlt))
        generalize A.getD k ByteArray.empty = x at *
        clear hcx0 hbb
        have hc := HX.out _ HBr.out
        obtain ⟨hc0, hc1, hc2⟩ := hc
        have HN0 : Hid (numV A F X A x = (k : Nat)) := Lib.hid (by rw [numV_ok HEQ.out]; exact HA.out.1)
        go_wp2_with fail
        refine (HN0.out ▸ pAgent_any _ A F X x _ (HG.out _ HBr.out).2.1 (HG.out _ HBr.out).1).mono ?_
        rintro e wq0 ⟨rfl, hb⟩
        have HQ0 : Hid (Below (w.heap.size + 1) _ wq0) := Lib.hid (HBr.out.trans (hb.mono (HG.out _ HBr.out).2.2.2))
        clear hb hc0 hc1 hc2
        have hc := HX.out _ HQ0.out
        obtain ⟨hc0, hc1, hc2⟩ := hc
        have HN1 : Hid (numV A F X F x = -1) := Lib.hid (by rw [numV_ok HEQ.out]; exact HA.out.2.1)
        go_wp2_with fail
        refine (HN1.out ▸ pFact_any _ A F X x _ (HG.out _ HQ0.out).2.1 (HG.out _ HQ0.out).1).mono ?_
        rintro e wq1 ⟨rfl, hb⟩
        have HQ1 : Hid (Below (w.heap.size + 1) _ wq1) := Lib.hid (HQ0.out.trans (hb.mono (HG.out _ HQ0.out).2.2.2))
        clear hb hc0 hc1 hc2
        have hc := HX.out _ HQ1.out
        obtain ⟨hc0, hc1, hc2⟩ := hc
        have HN2 : Hid (numV A F X X x = -1) := Lib.hid (by rw [numV_ok HEQ.out]; exact HA.out.2.2)
        go_wp2_with fail
        refine (HN2.out ▸ pAction_any _ A F X x _ (HG.out _ HQ1.out).2.1 (HG.out _ HQ1.out).1).mono ?_
        rintro e wq2 ⟨rfl, hb⟩
        have HQ2 : Hid (Below (w.heap.size + 1) _ wq2) := Lib.hid (HQ1.out.trans (hb.mono (HG.out _ HQ1.out).2.2.2))
        clear hb hc0 hc1 hc2
        have hc := HX.out _ HQ2.out
        obtain ⟨hc0, hc1, hc2⟩ := hc
        go_wp2
        go_roundw
        case rel => exact ⟨k + 1, by omega, by go_num, HQ2⟩
        case measure => simp [intOf]; omega
      · have hkn : n0 = k := by omega
        subst hkn
        have hc := HX.out _ HBr.out
        obtain ⟨hc0, hc1, hc2⟩ := hc
        go_wp2
        clear hc0 hc1 hc2
        go_loopw [51] (fun i wr => ∃ k : Nat, k ≤ n1 ∧ i = .int .i64 k ∧ Hid (Below (w.heap.size + 1) (w.alloc (.cells #[.slice a0 n0 c0, .slice a1 n1 c1, .slice a2 n2 c2] 39)) wr)) (fun i _ => n1 - (intOf i).toNat)
        case atStart => exact ⟨0, Nat.zero_le _, rfl, HBr⟩
        case round =>
          clear HBr
          obtain ⟨k, hk, rfl, HBr⟩ := hrel
          by_cases hlt : k < n1
          · obtain ⟨ad, rfl, hbb, hcx0, hxs⟩ := H1.out.at_ hlt
            have hcx := ((HG.out _ HBr.out).2.2.1.cell (p := ad.add k) (by rw [block_of_add]; exact hbb)).trans hcx0
            have HA := Lib.hid (HAP.out.2.1 k (by rw [H1.out.1.str_len]; exact hlt))
            generalize F.getD k ByteArray.empty = x at *
            clear hcx0 hbb
            have hc := HX.out _ HBr.out
            obtain ⟨hc0, hc1, hc2⟩ := hc
            have HN0 : Hid (numV A F X F x = (k : Nat)) := Lib.hid (by rw [numV_ok HEQ.out]; exact HA.out.1)
            go_wp2_with fail
            refine (HN0.out ▸ pFact_any _ A F X x _ (HG.out _ HBr.out).2.1 (HG.out _ HBr.out).1).mono ?_
            rintro e wq0 ⟨rfl, hb⟩
            have HQ0 : Hid (Below (w.heap.size + 1) _ wq0) := Lib.hid (HBr.out.trans (hb.mono (HG.out _ HBr.out).2.2.2))
            clear hb hc0 hc1 hc2
            have hc := HX.out _ HQ0.out
            obtain ⟨hc0, hc1, hc2⟩ := hc
            have HN1 : Hid (numV A F X A x = -1) := Lib.hid (by rw [numV_ok HEQ.out]; exact HA.out.2.1)
            go_wp2_with fail
            refine (HN1.out ▸ pAgent_any _ A F X x _ (HG.out _ HQ0.out).2.1 (HG.out _ HQ0.out).1).mono ?_
            rintro e wq1 ⟨rfl, hb⟩
            have HQ1 : Hid (Below (w.heap.size + 1) _ wq1) := Lib.hid (HQ0.out.trans (hb.mono (HG.out _ HQ0.out).2.2.2))
            clear hb hc0 hc1 hc2
            have hc := HX.out _ HQ1.out
            obtain ⟨hc0, hc1, hc2⟩ := hc
            have HN2 : Hid (numV A F X X x = -1) := Lib.hid (by rw [numV_ok HEQ.out]; exact HA.out.2.2)
            go_wp2_with fail
            refine (HN2.out ▸ pAction_any _ A F X x _ (HG.out _ HQ1.out).2.1 (HG.out _ HQ1.out).1).mono ?_
            rintro e wq2 ⟨rfl, hb⟩
            have HQ2 : Hid (Below (w.heap.size + 1) _ wq2) := Lib.hid (HQ1.out.trans (hb.mono (HG.out _ HQ1.out).2.2.2))
            clear hb hc0 hc1 hc2
            have hc := HX.out _ HQ2.out
            obtain ⟨hc0, hc1, hc2⟩ := hc
            go_wp2
            go_roundw
            case rel => exact ⟨k + 1, by omega, by go_num, HQ2⟩
            case measure => simp [intOf]; omega
          · have hkn : n1 = k := by omega
            subst hkn
            have hc := HX.out _ HBr.out
            obtain ⟨hc0, hc1, hc2⟩ := hc
            go_wp2
            clear hc0 hc1 hc2
            go_loopw [77] (fun i wr => ∃ k : Nat, k ≤ n2 ∧ i = .int .i64 k ∧ Hid (Below (w.heap.size + 1) (w.alloc (.cells #[.slice a0 n0 c0, .slice a1 n1 c1, .slice a2 n2 c2] 39)) wr)) (fun i _ => n2 - (intOf i).toNat)
            case atStart => exact ⟨0, Nat.zero_le _, rfl, HBr⟩
            case round =>
              clear HBr
              obtain ⟨k, hk, rfl, HBr⟩ := hrel
              by_cases hlt : k < n2
              · obtain ⟨ad, rfl, hbb, hcx0, hxs⟩ := H2.out.at_ hlt
                have hcx := ((HG.out _ HBr.out).2.2.1.cell (p := ad.add k) (by rw [block_of_add]; exact hbb)).trans hcx0
                have HA := Lib.hid (HAP.out.2.2 k (by rw [H2.out.1.str_len]; exact hlt))
                generalize X.getD k ByteArray.empty = x at *
                clear hcx0 hbb
                have hc := HX.out _ HBr.out
                obtain ⟨hc0, hc1, hc2⟩ := hc
                have HN0 : Hid (numV A F X X x = (k : Nat)) := Lib.hid (by rw [numV_ok HEQ.out]; exact HA.out.1)
                go_wp2_with fail
                refine (HN0.out ▸ pAction_any _ A F X x _ (HG.out _ HBr.out).2.1 (HG.out _ HBr.out).1).mono ?_
                rintro e wq0 ⟨rfl, hb⟩
                have HQ0 : Hid (Below (w.heap.size + 1) _ wq0) := Lib.hid (HBr.out.trans (hb.mono (HG.out _ HBr.out).2.2.2))
                clear hb hc0 hc1 hc2
                have hc := HX.out _ HQ0.out
                obtain ⟨hc0, hc1, hc2⟩ := hc
                have HN1 : Hid (numV A F X A x = -1) := Lib.hid (by rw [numV_ok HEQ.out]; exact HA.out.2.1)
                go_wp2_with fail
                refine (HN1.out ▸ pAgent_any _ A F X x _ (HG.out _ HQ0.out).2.1 (HG.out _ HQ0.out).1).mono ?_
                rintro e wq1 ⟨rfl, hb⟩
                have HQ1 : Hid (Below (w.heap.size + 1) _ wq1) := Lib.hid (HQ0.out.trans (hb.mono (HG.out _ HQ0.out).2.2.2))
                clear hb hc0 hc1 hc2
                have hc := HX.out _ HQ1.out
                obtain ⟨hc0, hc1, hc2⟩ := hc
                have HN2 : Hid (numV A F X F x = -1) := Lib.hid (by rw [numV_ok HEQ.out]; exact HA.out.2.2.1)
                go_wp2_with fail
                refine (HN2.out ▸ pFact_any _ A F X x _ (HG.out _ HQ1.out).2.1 (HG.out _ HQ1.out).1).mono ?_
                rintro e wq2 ⟨rfl, hb⟩
                have HQ2 : Hid (Below (w.heap.size + 1) _ wq2) := Lib.hid (HQ1.out.trans (hb.mono (HG.out _ HQ1.out).2.2.2))
                clear hb hc0 hc1 hc2
                have hc := HX.out _ HQ2.out
                obtain ⟨hc0, hc1, hc2⟩ := hc
                have HRS := Lib.hid (fun W hW => HA.out.2.2.2.1 ▸ pReserved_any x W hW)
                have HNM := Lib.hid (fun W => HA.out.2.2.2.2 ▸ pIsName_any x W hxs)
                go_wp2_with fail
                refine (HRS.out _ (HG.out _ HQ2.out).1).mono ?_
                rintro e wr1 ⟨rfl, rfl⟩
                go_wp2_with fail
                refine (HNM.out _).mono ?_
                rintro e wr2 ⟨rfl, rfl⟩
                go_wp2
                go_roundw
                case rel => exact ⟨k + 1, by omega, by go_num, HQ2⟩
                case measure => simp [intOf]; omega
              · have hkn : n2 = k := by omega
                subst hkn
                go_wp2
                go_ret
                exact ⟨rfl, (HG.out _ HBr.out).2.2.1⟩
  · have hq : (sigErr A F X != 0) = true := by rw [bne_iff_ne]; exact he
    clear he
    generalize sigErr A F X = z at *
    go_wp2_with fail
    refine (awakeS_any _ (HG.out _ HB3.out).1).mono ?_
    rintro e w4 ⟨rfl, hb⟩
    have HB4 : Hid (Below (w.heap.size + 1) (w.alloc (.cells #[.slice a0 n0 c0, .slice a1 n1 c1, .slice a2 n2 c2] 39)) w4) := Lib.hid (HB3.out.trans (hb.mono (HG.out _ HB3.out).2.2.2))
    clear hb
    go_wp2
    go_ret
    exact ⟨rfl, (HG.out _ HB4.out).2.2.1⟩
theorem walk (a0 : Option Addr) (n0 c0 : Nat) (a1 : Option Addr) (n1 c1 : Nat) (a2 : Option Addr) (n2 c2 : Nat) (A F X : List ByteArray) (w : World) (s0 : SL0 w a0 n0 c0 A) (s1 : SL0 w a1 n1 c1 F) (s2 : SL0 w a2 n2 c2 X) (hE : EnvS w) :
    Calls Tryd.prog 10 #[sv a0 n0 c0 a1 n1 c1 a2 n2 c2] w fun e w' => e = .returned (.bool true) ∧ Below w.heap.size w w' := by
  by_cases hf : n0 ≤ 12 ∧ n1 ≤ 12 ∧ n2 ≤ 12
  · exact walk_few a0 n0 c0 a1 n1 c1 a2 n2 c2 A F X w ⟨_, _, _, _, _, _, _, _, _, rfl, s0.small (by omega), s1.small (by omega), s2.small (by omega)⟩ hE hf.1 hf.2.1 hf.2.2
  · refine walk_many a0 n0 c0 a1 n1 c1 a2 n2 c2 w s0.2.2.1 s1.2.2.1 s2.2.2.1 hE ?_
    by_cases h0 : n0 ≤ 12 <;> by_cases h1 : n1 ≤ 12 <;> by_cases h2 : n2 ≤ 12 <;> simp [h0, h1, h2]
    exact hf ⟨h0, h1, h2⟩
set_option maxRecDepth 100000 in
theorem contract (H : Type) (enc : TypeId × Value → H) (W : World) (base : Nat) (args : Array Value) (ds gs : List (DataW H)) (before : List MemPlace)
    (hval : ∀ (j : Nat) t v, Tryd.f10.params[j]? = some t → args[j]? = some v → Value.okWide Tryd.prog W .any base t v)
    (hW : DataW.Whole enc Tryd.prog Tryd.f10.params.toList Rows.signatureApartSpec.vars false W args.toList ds gs before) (hE : EnvS W) :
    Calls Tryd.prog 10 args W fun e W' => ∃ v, e = .returned v ∧ Rows.signatureApartSpec.post enc Tryd.prog Tryd.f10 false true false false W args v W' := by
  have hW' := hW
  obtain ⟨p, q, hA0, hV, rfl, hfz, hnd⟩ := hW
  have hA : DataW.TrodAll enc Tryd.prog W 0 (fun _ => true) true Tryd.f10.params.toList args.toList ds p := hA0
  rw [Tryd.params10] at hA hval
  obtain ⟨v0, vs0, d0, ds0, p0, q0, hargs, rfl, rfl, h0, r0⟩ := trodAll_cons hA
  obtain ⟨rfl, rfl, rfl⟩ := trodAll_nil r0
  obtain rfl : args = #[v0] := by cases args; simp_all
  obtain ⟨rfl, rfl⟩ := trodVars_none hV
  obtain ⟨a0, n0, c0, a1, n1, c1, a2, n2, c2, A, F, X, rfl, s0, s1, s2⟩ := open_sig (hval 0 39 v0 rfl rfl) h0
  have k0 := h0
  have lt0 : ∀ x ∈ p0, x.block < W.heap.size := by obtain ⟨m, hm⟩ := k0; exact DataW.trod_lt m _ _ _ hm
  clear hA0
  have hwalk := walk a0 n0 c0 a1 n1 c1 a2 n2 c2 A F X W s0 s1 s2 hE
  refine hwalk.mono fun e W' ⟨he, hg⟩ => ?_
  subst he
  exact ⟨_, rfl, _, _, _, [], _, [], hW', trodAll_mk1 (shut_bool Tryd.underlying4 _), (trodAll_cons_mk (Below.trod laidOut (by kernel_rfl) (of_decide_eq_true (by kernel_rfl)) k0 hg lt0) trodAll_mk0), rfl, hg.frame _, fun h => by cases h⟩
theorem reads (os : Os) {H : Type} (enc : TypeId × Value → H) : ∃ places, DataW.whole enc Tryd.prog ((laidW os).forCall (fun _ _ => 0) ⟨#[], #[.agg #[.slice none 0 0, .slice none 0 0, .slice none 0 0]], []⟩).memory Tryd.f10.params.toList Rows.signatureApartSpec.vars false #[(.agg #[.slice none 0 0, .slice none 0 0, .slice none 0 0] : Value)].toList 8 = some ([.agg [.nil, .nil, .nil]], [], places) :=
  ⟨[], by kernel_rfl⟩
set_option maxRecDepth 100000 in
theorem lifted (os : Os) (started : os.Started) (H : Type) (enc : TypeId × Value → H) (F : Stop.Interp) :
    ReturnsInHanded {} Tryd.checked os 10 .any ((OpenSpec.ofChange Rows.signatureApartSpec).preRow enc Tryd.prog Tryd.f10 Rows.signatureApartRow.domain false Rows.signatureApartRow.laid) (((OpenSpec.ofChange Rows.signatureApartSpec).at F).post enc Tryd.prog Tryd.f10 false true false false) := by
  obtain ⟨places, hx⟩ := reads os enc
  refine returnsInHanded_of_row (C := Tryd.checked) (s := OpenSpec.ofChange Rows.signatureApartSpec) own started (by kernel_rfl) Tryd.func10
    (witness_row_atRef (enc := enc) (C := Tryd.checked) false (laidW os) #[.agg #[.slice none 0 0, .slice none 0 0, .slice none 0 0]] (laidW_os os) (vars_ok os _) (heap_ok os _) (by kernel_rfl)
      (OpenSpec.preRow_of_cond 8 hx (by kernel_rfl) (fun k hk => by cases hk) (by kernel_rfl) (laid_met os _))) ?_
  intro W base args ds gs before hval hW _ _ _ hL hsh _
  exact contract H enc W base args ds gs before hval hW (env_of hL hsh)
theorem said : Rows.SignatureApartSaid :=
  OpenClaim.holds_of_cond 10 Tryd.f10 rfl rfl rfl rfl rfl rfl rfl ⟨rfl, rfl, rfl, rfl, rfl⟩ rfl rfl rfl rfl rfl (by kernel_rfl) Tryd.func10 (by kernel_rfl)
    (of_decide_eq_true (by kernel_rfl)) (by unfold Func.isWrapper; first | (rw [if_pos (by decide +kernel)]; kernel_rfl) | (rw [if_neg (by decide +kernel)]; exact ⟨rfl, rfl⟩))
    (fun os started H enc _ F => by rw [OpenClaim.pre_eq_preRow]; exact lifted os started H enc F)
theorem plain (f : FuncId) (fn : Func) (hf : Tryd.pinned.checked.prog.funcNamed "witting/wittinglaw04.SignatureApart" = some f) (hfn : Tryd.pinned.checked.prog.funcs[f]? = some fn) :
    false = Tryd.pinned.checked.prog.looks [] ∧ ∀ (j : Nat) t, fn.params[j]? = some t → Tryd.pinned.checked.prog.wantsStandIn t = false := by
  obtain rfl : f = 10 := Option.some.inj ((show Tryd.prog.funcNamed "witting/wittinglaw04.SignatureApart" = some 10 by kernel_rfl).symm.trans hf) |>.symm
  obtain rfl : fn = Tryd.f10 := (Option.some.inj (Tryd.func10.symm.trans hfn)).symm
  refine ⟨no_looks, fun j t ht => ?_⟩
  rw [Tryd.params10] at ht
  have hm : t ∈ [39] := by simpa using Array.mem_of_getElem? ht
  have hall : ([39].all fun u => !Tryd.prog.wantsStandIn u) = true := by kernel_rfl
  exact (show Tryd.prog.wantsStandIn t = false by simpa using List.all_eq_true.1 hall t hm)
theorem card : Rows.SignatureApartCardSaid :=
  Claim7.holds_tied_plain_at .later [] _ _ _ _ said (fun _ h => by cases h) (by kernel_rfl) (fun _ h => by cases h) signatureApart_row_tie rfl ⟨rfl, rfl⟩ (by kernel_rfl) rfl plain (by kernel_rfl)
#print axioms card
end Go.Proofs.YtichhbnpdhfimaaDoor.signatureApart
