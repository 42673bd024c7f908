/- SignatureBack (P4.4): Parse restores every group from its text, and the text has as many parts as the group has agents; for every signature and number. Conditions: the package variables that the row lists hold what the program's text lays in them. -/
import Derived.Test.YtichhbnpdhfimaaDoorSu
import Derived.Test.YtichhbnpdhfimaaDoorSn
namespace Go.Proofs.YtichhbnpdhfimaaDoor.signatureBack
open Go.ChangeShapes Go.WideShapes Go.ChangeAt Go.RowKit Go.Proofs.YtichhbnpdhfimaaDoor Go.Proofs.YtichhbnpdhfimaaDoor.sig Go.Proofs.Ws
open Go.ChangeMaps (open_string shut_string)

theorem bitv_i64 : ∀ m : Fin 16, ∀ j : Fin 4, bits BinOp.and IntKind.i64 ((m.1 : Int) / 2 ^ j.1) 1 = (((if m.1.testBit j.1 then 1 else 0) : Nat) : Int) := by decide +kernel
theorem pop_le (m : Nat) : ∀ k, popK m k ≤ k
  | 0 => by simp [popK]
  | k + 1 => by
    rw [popK_succ]
    have := pop_le m k
    split <;> omega
theorem join_size {l : List ByteArray} (h : ∀ x ∈ l, nameV x = true) (hl : l.length ≤ 20) : (joinV l).size ≤ 200 := by
  have := join_len h hl
  rw [← ba_len]
  exact this
set_option maxRecDepth 100000 in
set_option maxHeartbeats 2000000 in
theorem walk_many (a0 : Option Addr) (n0 c0 : Nat) (a1 : Option Addr) (n1 c1 : Nat) (a2 : Option Addr) (n2 c2 : Nat) (g : Int) (w : World) (h0 : n0 ≤ maxLen) (h1 : n1 ≤ maxLen) (h2 : n2 ≤ maxLen) (hE : EnvS w) (hf : (decide (n0 ≤ 12) && decide (n1 ≤ 12) && decide (n2 ≤ 12)) = false) :
    Calls Tryd.prog 9 #[.agg #[.slice a0 n0 c0, .slice a1 n1 c1, .slice a2 n2 c2], .int .i64 g] w fun e w' => e = .returned (.bool true) ∧ Below w.heap.size w w' := by
  have HX := Lib.hid (@boxed w a0 a1 a2 n0 c0 n1 c1 n2 c2 39)
  have HF := Lib.hid (fun W => hf ▸ pFew_any a0 a1 a2 n0 c0 n1 c1 n2 c2 W h0 h1 h2)
  have hb0 : Below (w.heap.size + 1) (w.alloc (.cells #[.slice a0 n0 c0, .slice a1 n1 c1, .slice a2 n2 c2] 39)) (w.alloc (.cells #[.slice a0 n0 c0, .slice a1 n1 c1, .slice a2 n2 c2] 39)) := Below.refl _ _
  have HG : Hid (∀ W, Below (w.heap.size + 1) (w.alloc (.cells #[.slice a0 n0 c0, .slice a1 n1 c1, .slice a2 n2 c2] 39)) W → EnvS W ∧ Below w.heap.size w W ∧ w.heap.size + 1 ≤ W.heap.size) := Lib.hid (fun W hW => by
    have h1 : Below w.heap.size w W := ((Below.refl _ w).alloc (Nat.le_refl _) _).trans (hW.mono (by omega))
    exact ⟨hE.below h1, h1, by have := hW.size; simpa using this⟩)
  have HB0 := Lib.hid hb0
  clear hE h0 h1 h2 hf hb0
  go_enter Tryd.func9, Tryd.ntmps9
  go_wp2_with fail
  refine (awakeS_any _ (HG.out _ HB0.out).1).mono ?_
  rintro e w1 ⟨rfl, hb⟩
  have HB : Hid (Below (w.heap.size + 1) (w.alloc (.cells #[.slice a0 n0 c0, .slice a1 n1 c1, .slice a2 n2 c2] 39)) w1) := Lib.hid (HB0.out.trans (hb.mono (by simp)))
  have hc := HX.out w1 HB.out
  obtain ⟨hc0, hc1, hc2⟩ := hc
  clear hb
  go_wp2_with fail
  refine (HF.out _).mono ?_
  rintro e w2 ⟨rfl, hb⟩
  have HB2 : Hid (Below (w.heap.size + 1) (w.alloc (.cells #[.slice a0 n0 c0, .slice a1 n1 c1, .slice a2 n2 c2] 39)) w2) := Lib.hid (HB.out.trans (hb.mono (HG.out _ HB.out).2.2))
  clear hb hc0 hc1 hc2
  go_wp2_with fail
  refine (awakeS_any _ (HG.out _ HB2.out).1).mono ?_
  rintro e w3 ⟨rfl, hb⟩
  have HB3 : Hid (Below (w.heap.size + 1) (w.alloc (.cells #[.slice a0 n0 c0, .slice a1 n1 c1, .slice a2 n2 c2] 39)) w3) := Lib.hid (HB2.out.trans (hb.mono (HG.out _ HB2.out).2.2))
  clear hb
  go_wp2
  go_ret
  exact ⟨rfl, (HG.out _ HB3.out).2.1⟩

set_option maxRecDepth 100000 in
set_option maxHeartbeats 4000000 in
theorem walk_few (a0 : Option Addr) (n0 c0 : Nat) (a1 : Option Addr) (n1 c1 : Nat) (a2 : Option Addr) (n2 c2 : Nat) (A F X : List ByteArray) (g : Int) (w : World) (hS : SigR w w.heap.size (.agg #[.slice a0 n0 c0, .slice a1 n1 c1, .slice a2 n2 c2]) A F X) (hE : EnvS w) (f0 : n0 ≤ 12) (f1 : n1 ≤ 12) (f2 : n2 ≤ 12) :
    Calls Tryd.prog 9 #[.agg #[.slice a0 n0 c0, .slice a1 n1 c1, .slice a2 n2 c2], .int .i64 g] w fun e w' => e = .returned (.bool true) ∧ Below w.heap.size w w' := by
  have HX := Lib.hid (@boxed w a0 a1 a2 n0 c0 n1 c1 n2 c2 39)
  have HF := Lib.hid (fun W => (show (decide (n0 ≤ 12) && decide (n1 ≤ 12) && decide (n2 ≤ 12)) = true by simp [f0, f1, f2]) ▸ pFew_any a0 a1 a2 n0 c0 n1 c1 n2 c2 W (by unfold maxLen; omega) (by unfold maxLen; omega) (by unfold maxLen; omega))
  have HG : Hid (∀ W, Below (w.heap.size + 1) (w.alloc (.cells #[.slice a0 n0 c0, .slice a1 n1 c1, .slice a2 n2 c2] 39)) W → EnvS W ∧ SigR W W.heap.size (.agg #[.slice a0 n0 c0, .slice a1 n1 c1, .slice a2 n2 c2]) A F X ∧ Below w.heap.size w W ∧ w.heap.size + 1 ≤ W.heap.size) := Lib.hid (fun W hW => by
    have h1 : Below w.heap.size w W := ((Below.refl _ w).alloc (Nat.le_refl _) _).trans (hW.mono (by omega))
    exact ⟨hE.below h1, hS.on h1, h1, by have := hW.size; simpa using this⟩)

  obtain ⟨s0, s1, s2⟩ : SL w w.heap.size a0 n0 c0 A ∧ SL w w.heap.size a1 n1 c1 F ∧ SL w w.heap.size a2 n2 c2 X := by
    obtain ⟨b0, m0, d0, b1, m1, d1, b2, m2, d2, e, t0, t1, t2⟩ := hS
    unfold sv at e
    injection e with e
    simp at e
    obtain ⟨⟨rfl, rfl, rfl⟩, ⟨rfl, rfl, rfl⟩, rfl, rfl, rfl⟩ := e
    exact ⟨t0, t1, t2⟩
  have HAL := Lib.hid s0.1.str_len
  clear s0 s1 s2 hS hE
  go_enter Tryd.func9, Tryd.ntmps9
  go_wp2_with fail
  refine (awakeS_any _ (HG.out _ (Below.refl _ _)).1).mono ?_
  rintro e w1 ⟨rfl, hb⟩
  have HB : Hid (Below (w.heap.size + 1) (w.alloc (.cells #[.slice a0 n0 c0, .slice a1 n1 c1, .slice a2 n2 c2] 39)) w1) := Lib.hid ((Below.refl _ _).trans (hb.mono (by simp)))
  have hc := HX.out w1 HB.out
  obtain ⟨hc0, hc1, hc2⟩ := hc
  clear hb
  go_wp2_with fail
  refine (HF.out _).mono ?_
  rintro e w2 ⟨rfl, hb⟩
  have HB2 : Hid (Below (w.heap.size + 1) (w.alloc (.cells #[.slice a0 n0 c0, .slice a1 n1 c1, .slice a2 n2 c2] 39)) w2) := Lib.hid (HB.out.trans (hb.mono (HG.out _ HB.out).2.2.2))
  clear hb hc0 hc1 hc2 HF
  have hc := HX.out w2 HB2.out
  obtain ⟨hc0, hc1, hc2⟩ := hc
  go_wp2_with fail
  refine (pRefSigCheck_any _ A F X _ (HG.out _ HB2.out).2.1).mono ?_
  rintro e w3 ⟨rfl, hb⟩
  have HB3 : Hid (Below (w.heap.size + 1) (w.alloc (.cells #[.slice a0 n0 c0, .slice a1 n1 c1, .slice a2 n2 c2] 39)) w3) := Lib.hid (HB2.out.trans (hb.mono (HG.out _ HB2.out).2.2.2))
  clear hb hc0 hc1 hc2 HB HB2
  by_cases he : sigErr A F X = 0
  · have hq : (sigErr A F X != 0) = false := by rw [he]; rfl
    have hA4 : A.length ≤ 4 := (sigErr_ok he).1
    have hn4 : n0 ≤ 4 := by rw [← HAL.out]; exact hA4
    have HNM : Hid (∀ x ∈ A, nameV x = true) := Lib.hid (fun x hx => ((sigErr_ok he).2.2.2.1 x (List.mem_append.2 (.inl hx))).1)
    have HEQ := Lib.hid he
    have hsh := shl_i64 ⟨n0, by omega⟩
    dsimp only at hsh
    have HSH := Lib.hid hsh
    clear he hA4 hsh
    have hc := HX.out w3 HB3.out
    obtain ⟨hc0, hc1, hc2⟩ := hc
    have HT := Lib.hid (fun W hW => pText_any (.agg #[.slice a0 n0 c0, .slice a1 n1 c1, .slice a2 n2 c2]) A F X g W (HG.out W hW).2.1 (HG.out W hW).1)
    by_cases hr : 1 ≤ g ∧ g < 2 ^ n0
    · obtain ⟨m, rfl⟩ := Int.eq_ofNat_of_zero_le (show 0 ≤ g by omega)
      have hm2 : m < 2 ^ n0 := by have := hr.2; exact_mod_cast this
      have hm1 : 1 ≤ m := by omega
      have hm16 : m < 16 := Nat.lt_of_lt_of_le hm2 (pow4 hn4)
      have HV : Hid (textV A F X (m : Int) = (joinV (selK A m A.length), 0)) := Lib.hid (text_ok HEQ.out hm1 (by rw [HAL.out]; exact hm2))
      have HPT := Lib.hid (parse_text (F := F) (X := X) HEQ.out hm1 (by rw [HAL.out]; exact hm2))
      have hts : (joinV (selK A m A.length)).size ≤ 200 := join_size (fun x hx => HNM.out x (selK_mem (Nat.le_refl _) hx)) (by rw [selK_length]; have := pop_le m A.length; have := HAL.out; omega)
      generalize joinV (selK A m A.length) = T at *
      have HT2 : Hid (∀ W, Below (w.heap.size + 1) (w.alloc (.cells #[.slice a0 n0 c0, .slice a1 n1 c1, .slice a2 n2 c2] 39)) W → Calls Tryd.prog 45 #[.agg #[.slice a0 n0 c0, .slice a1 n1 c1, .slice a2 n2 c2], .int .i64 m] W fun e w' => e = .returned (.tuple #[.string T, .int .i64 0]) ∧ Below W.heap.size W w') := Lib.hid (fun W hW => by
        have := HT.out W hW
        rw [HV.out] at this
        exact this)
      have HP2 : Hid (∀ W, Below (w.heap.size + 1) (w.alloc (.cells #[.slice a0 n0 c0, .slice a1 n1 c1, .slice a2 n2 c2] 39)) W → Calls Tryd.prog 47 #[.agg #[.slice a0 n0 c0, .slice a1 n1 c1, .slice a2 n2 c2], .string T] W fun e w' => e = .returned (.tuple #[.int .i64 m, .int .i64 0]) ∧ Below W.heap.size W w') := Lib.hid (fun W hW => by
        have := pParse_any (.agg #[.slice a0 n0 c0, .slice a1 n1 c1, .slice a2 n2 c2]) A F X T W (HG.out W hW).2.1 (HG.out W hW).1 (by omega)
        rw [HPT.out.1] at this
        exact this)
      have hd1 : decide ((m : Int) < 1) = false := by simp; omega
      have hd2 : decide (wrap64 ((2 : Int) ^ n0) ≤ (m : Int)) = false := by rw [HSH.out, decide_eq_false_iff_not]; intro hh; exact absurd (show 2 ^ n0 ≤ m by exact_mod_cast hh) (by omega)
      clear hr HT HV
      go_wp2_with fail
      refine (HT2.out _ HB3.out).mono ?_
      rintro e w4 ⟨rfl, hb⟩
      have HB4 : Hid (Below (w.heap.size + 1) (w.alloc (.cells #[.slice a0 n0 c0, .slice a1 n1 c1, .slice a2 n2 c2] 39)) w4) := Lib.hid (HB3.out.trans (hb.mono (HG.out _ HB3.out).2.2.2))
      clear hb hc0 hc1 hc2 hq
      have hc := HX.out w4 HB4.out
      obtain ⟨hc0, hc1, hc2⟩ := hc
      go_wp2_with fail
      refine (HP2.out _ HB4.out).mono ?_
      rintro e w5 ⟨rfl, hb⟩
      have HB5 : Hid (Below (w.heap.size + 1) (w.alloc (.cells #[.slice a0 n0 c0, .slice a1 n1 c1, .slice a2 n2 c2] 39)) w5) := Lib.hid (HB4.out.trans (hb.mono (HG.out _ HB4.out).2.2.2))
      clear hb hc0 hc1 hc2 hd1 hd2
      have hc := HX.out w5 HB5.out
      obtain ⟨hc0, hc1, hc2⟩ := hc
      go_wp2
      clear hc0 hc1 hc2
      go_loopw [9, 51] (fun sv i wr => ∃ k p : Nat, k ≤ n0 ∧ p ≤ k ∧ i = .int .i64 k ∧ sv = .int .i64 p ∧ Hid (p = popK m k) ∧ wr = w5) (fun _ i _ => n0 - (intOf i).toNat)
      case atStart => exact ⟨0, 0, Nat.zero_le _, Nat.le_refl _, rfl, rfl, Lib.hid rfl, rfl⟩
      case round =>
        obtain ⟨k, p, hk, hpk, rfl, rfl, HP, rfl⟩ := hrel
        by_cases hlt : k < n0
        · have hbv := bitv_i64 ⟨m, hm16⟩ ⟨k, by omega⟩
          dsimp only at hbv
          have HS := Lib.hid (popK_succ m k)
          cases hbt : m.testBit k with
          | true =>
            rw [hbt] at hbv HS
            simp only [if_true] at hbv
            have HN : Hid (p + 1 = popK m (k + 1)) := Lib.hid (by rw [HS.out, ← HP.out]; rfl)
            clear hbt HS HP
            go_wp2
            go_roundw
            case rel => exact ⟨k + 1, p + 1, by omega, by omega, by go_num, by go_num, HN, by first | rfl | trivial⟩
            case measure => simp [intOf]; omega
          | false =>
            rw [hbt] at hbv HS
            simp only [Bool.false_eq_true, if_false] at hbv
            have HN : Hid (p = popK m (k + 1)) := Lib.hid (by rw [HS.out, ← HP.out]; rfl)
            clear hbt HS HP
            go_wp2
            go_roundw
            case rel => exact ⟨k + 1, p, by omega, by omega, by go_num, by go_num, HN, by first | rfl | trivial⟩
            case measure => simp [intOf]; omega
        · have hkn : n0 = k := by omega
          subst hkn
          have HPL : Hid ((partsB T).length = p) := Lib.hid (by rw [HPT.out.2, HP.out, HAL.out])
          have HSP := Lib.hid (pSplit_any T wr (by omega) (HG.out _ HB5.out).1)
          rw [HPL.out] at HSP
          have hbm : ((m : Int) == (m : Int)) = true := by simp
          have hbp : ((p : Int) == (p : Int)) = true := by simp
          clear HP
          go_wp2_with fail
          refine (HSP.out).mono ?_
          rintro e w6 ⟨rfl, rfl⟩
          go_wp2
          go_ret
          exact ⟨rfl, ((HG.out _ HB5.out).2.2.1).alloc (by have := (HG.out _ HB5.out).2.2.2; omega) _⟩
    · have HV : Hid (textV A F X g = (ByteArray.empty, 2)) := Lib.hid (text_out HEQ.out (by rw [HAL.out]; exact hr))
      have HT2 : Hid (∀ W, Below (w.heap.size + 1) (w.alloc (.cells #[.slice a0 n0 c0, .slice a1 n1 c1, .slice a2 n2 c2] 39)) W → Calls Tryd.prog 45 #[.agg #[.slice a0 n0 c0, .slice a1 n1 c1, .slice a2 n2 c2], .int .i64 g] W fun e w' => e = .returned (.tuple #[.string ByteArray.empty, .int .i64 2]) ∧ Below W.heap.size W w') := Lib.hid (fun W hW => by
        have := HT.out W hW
        rw [HV.out] at this
        exact this)
      clear HT HV
      go_wp2_with fail
      refine (HT2.out _ HB3.out).mono ?_
      rintro e w4 ⟨rfl, hb⟩
      have HB4 : Hid (Below (w.heap.size + 1) (w.alloc (.cells #[.slice a0 n0 c0, .slice a1 n1 c1, .slice a2 n2 c2] 39)) w4) := Lib.hid (HB3.out.trans (hb.mono (HG.out _ HB3.out).2.2.2))
      clear hb hc0 hc1 hc2 hq
      have hc := HX.out w4 HB4.out
      obtain ⟨hc0, hc1, hc2⟩ := hc
      by_cases hg1 : g < 1
      · have hd1 : decide (g < 1) = true := by simp; omega
        clear hr hg1
        go_wp2
        go_ret
        exact ⟨rfl, (HG.out _ HB4.out).2.2.1⟩
      · have hd1 : decide (g < 1) = false := by simp; omega
        have hd2 : decide (wrap64 ((2 : Int) ^ n0) ≤ g) = true := by rw [HSH.out, decide_eq_true_eq]; exact Int.not_lt.1 (fun hh => hr ⟨by omega, hh⟩)
        clear hr hg1
        go_wp2
        go_ret
        exact ⟨rfl, (HG.out _ HB4.out).2.2.1⟩
  · have hq : (sigErr A F X != 0) = true := by rw [bne_iff_ne]; exact he
    clear he
    generalize sigErr A F X = z at *
    go_wp2_with fail
    refine (awakeS_any _ (HG.out _ HB3.out).1).mono ?_
    rintro e w4 ⟨rfl, hb⟩
    have HB4 : Hid (Below (w.heap.size + 1) (w.alloc (.cells #[.slice a0 n0 c0, .slice a1 n1 c1, .slice a2 n2 c2] 39)) w4) := Lib.hid (HB3.out.trans (hb.mono (HG.out _ HB3.out).2.2.2))
    clear hb
    go_wp2
    go_ret
    exact ⟨rfl, (HG.out _ HB4.out).2.2.1⟩
theorem walk (a0 : Option Addr) (n0 c0 : Nat) (a1 : Option Addr) (n1 c1 : Nat) (a2 : Option Addr) (n2 c2 : Nat) (A F X : List ByteArray) (g : Int) (w : World) (s0 : SL0 w a0 n0 c0 A) (s1 : SL0 w a1 n1 c1 F) (s2 : SL0 w a2 n2 c2 X) (hE : EnvS w) :
    Calls Tryd.prog 9 #[sv a0 n0 c0 a1 n1 c1 a2 n2 c2, .int .i64 g] w fun e w' => e = .returned (.bool true) ∧ Below w.heap.size w w' := by
  by_cases hf : n0 ≤ 12 ∧ n1 ≤ 12 ∧ n2 ≤ 12
  · exact walk_few a0 n0 c0 a1 n1 c1 a2 n2 c2 A F X g w ⟨_, _, _, _, _, _, _, _, _, rfl, s0.small (by omega), s1.small (by omega), s2.small (by omega)⟩ hE hf.1 hf.2.1 hf.2.2
  · refine walk_many a0 n0 c0 a1 n1 c1 a2 n2 c2 g w s0.2.2.1 s1.2.2.1 s2.2.2.1 hE ?_
    by_cases h0 : n0 ≤ 12 <;> by_cases h1 : n1 ≤ 12 <;> by_cases h2 : n2 ≤ 12 <;> simp [h0, h1, h2]
    exact hf ⟨h0, h1, h2⟩
set_option maxRecDepth 100000 in
theorem contract (H : Type) (enc : TypeId × Value → H) (W : World) (base : Nat) (args : Array Value) (ds gs : List (DataW H)) (before : List MemPlace)
    (hval : ∀ (j : Nat) t v, Tryd.f9.params[j]? = some t → args[j]? = some v → Value.okWide Tryd.prog W .any base t v)
    (hW : DataW.Whole enc Tryd.prog Tryd.f9.params.toList Rows.signatureBackSpec.vars false W args.toList ds gs before) (hE : EnvS W) :
    Calls Tryd.prog 9 args W fun e W' => ∃ v, e = .returned v ∧ Rows.signatureBackSpec.post enc Tryd.prog Tryd.f9 false true false false W args v W' := by
  have hW' := hW
  obtain ⟨p, q, hA0, hV, rfl, hfz, hnd⟩ := hW
  have hA : DataW.TrodAll enc Tryd.prog W 0 (fun _ => true) true Tryd.f9.params.toList args.toList ds p := hA0
  rw [Tryd.params9] at hA hval
  obtain ⟨v0, vs0, d0, ds0, p0, q0, hargs, rfl, rfl, h0, r0⟩ := trodAll_cons hA
  obtain ⟨v1, vs1, d1, ds1, p1, q1, rfl, rfl, rfl, h1, r1⟩ := trodAll_cons r0
  obtain ⟨rfl, rfl, rfl⟩ := trodAll_nil r1
  obtain rfl : args = #[v0, v1] := by cases args; simp_all
  obtain ⟨rfl, rfl⟩ := trodVars_none hV
  obtain ⟨a0, n0, c0, a1, n1, c1, a2, n2, c2, A, F, X, rfl, s0, s1, s2⟩ := open_sig (hval 0 39 v0 rfl rfl) h0
  have k0 := h0
  have lt0 : ∀ x ∈ p0, x.block < W.heap.size := by obtain ⟨m, hm⟩ := k0; exact DataW.trod_lt m _ _ _ hm
  obtain ⟨g, rfl, rfl, rfl, w1⟩ := open_int Tryd.underlying3 (hval 1 3 v1 rfl rfl) h1
  clear hA0
  simp only [List.append_nil] at hW'
  have hwalk := walk a0 n0 c0 a1 n1 c1 a2 n2 c2 A F X g W s0 s1 s2 hE
  refine hwalk.mono fun e W' ⟨he, hg⟩ => ?_
  subst he
  exact ⟨_, rfl, _, _, _, [], _, [], hW', trodAll_mk1 (shut_bool Tryd.underlying4 _), (trodAll_cons_mk (Below.trod laidOut (by kernel_rfl) (of_decide_eq_true (by kernel_rfl)) k0 hg lt0) (trodAll_cons_mk (shut_int Tryd.underlying3 w1) trodAll_mk0)), rfl, hg.frame _, fun h => by cases h⟩
theorem reads (os : Os) {H : Type} (enc : TypeId × Value → H) : ∃ places, DataW.whole enc Tryd.prog ((laidW os).forCall (fun _ _ => 0) ⟨#[], #[.agg #[.slice none 0 0, .slice none 0 0, .slice none 0 0], .int .i64 0], []⟩).memory Tryd.f9.params.toList Rows.signatureBackSpec.vars false #[(.agg #[.slice none 0 0, .slice none 0 0, .slice none 0 0] : Value), (.int .i64 0 : Value)].toList 8 = some ([.agg [.nil, .nil, .nil], .lit (.int .i64 0)], [], places) :=
  ⟨[], by kernel_rfl⟩
set_option maxRecDepth 100000 in
theorem lifted (os : Os) (started : os.Started) (H : Type) (enc : TypeId × Value → H) (F : Stop.Interp) :
    ReturnsInHanded {} Tryd.checked os 9 .any ((OpenSpec.ofChange Rows.signatureBackSpec).preRow enc Tryd.prog Tryd.f9 Rows.signatureBackRow.domain false Rows.signatureBackRow.laid) (((OpenSpec.ofChange Rows.signatureBackSpec).at F).post enc Tryd.prog Tryd.f9 false true false false) := by
  obtain ⟨places, hx⟩ := reads os enc
  refine returnsInHanded_of_row (C := Tryd.checked) (s := OpenSpec.ofChange Rows.signatureBackSpec) own started (by kernel_rfl) Tryd.func9
    (witness_row_atRef (enc := enc) (C := Tryd.checked) false (laidW os) #[.agg #[.slice none 0 0, .slice none 0 0, .slice none 0 0], .int .i64 0] (laidW_os os) (vars_ok os _) (heap_ok os _) (by kernel_rfl)
      (OpenSpec.preRow_of_cond 8 hx (by kernel_rfl) (fun k hk => by cases hk) (by kernel_rfl) (laid_met os _))) ?_
  intro W base args ds gs before hval hW _ _ _ hL hsh _
  exact contract H enc W base args ds gs before hval hW (env_of hL hsh)
theorem said : Rows.SignatureBackSaid :=
  OpenClaim.holds_of_cond 9 Tryd.f9 rfl rfl rfl rfl rfl rfl rfl ⟨rfl, rfl, rfl, rfl, rfl⟩ rfl rfl rfl rfl rfl (by kernel_rfl) Tryd.func9 (by kernel_rfl)
    (of_decide_eq_true (by kernel_rfl)) (by unfold Func.isWrapper; first | (rw [if_pos (by decide +kernel)]; kernel_rfl) | (rw [if_neg (by decide +kernel)]; exact ⟨rfl, rfl⟩))
    (fun os started H enc _ F => by rw [OpenClaim.pre_eq_preRow]; exact lifted os started H enc F)
theorem plain (f : FuncId) (fn : Func) (hf : Tryd.pinned.checked.prog.funcNamed "witting/wittinglaw04.SignatureBack" = some f) (hfn : Tryd.pinned.checked.prog.funcs[f]? = some fn) :
    false = Tryd.pinned.checked.prog.looks [] ∧ ∀ (j : Nat) t, fn.params[j]? = some t → Tryd.pinned.checked.prog.wantsStandIn t = false := by
  obtain rfl : f = 9 := Option.some.inj ((show Tryd.prog.funcNamed "witting/wittinglaw04.SignatureBack" = some 9 by kernel_rfl).symm.trans hf) |>.symm
  obtain rfl : fn = Tryd.f9 := (Option.some.inj (Tryd.func9.symm.trans hfn)).symm
  refine ⟨no_looks, fun j t ht => ?_⟩
  rw [Tryd.params9] at ht
  have hm : t ∈ [39, 3] := by simpa using Array.mem_of_getElem? ht
  have hall : ([39, 3].all fun u => !Tryd.prog.wantsStandIn u) = true := by kernel_rfl
  exact (show Tryd.prog.wantsStandIn t = false by simpa using List.all_eq_true.1 hall t hm)
theorem card : Rows.SignatureBackCardSaid :=
  Claim7.holds_tied_plain_at .later [] _ _ _ _ said (fun _ h => by cases h) (by kernel_rfl) (fun _ h => by cases h) signatureBack_row_tie rfl ⟨rfl, rfl⟩ (by kernel_rfl) rfl plain (by kernel_rfl)
#print axioms card
end Go.Proofs.YtichhbnpdhfimaaDoor.signatureBack
