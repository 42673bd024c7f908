/- Layer 6: texts joined: Uw Ux. -/
import Derived.Test.YthhkeobjjeldhaaGreatDoorJf
import Derived.Test.YthhkeobjjeldhaaGreatDoorJg
import Derived.Laws.Strings2
/- Layer 6: the reference's tokens. -/
namespace Go.Proofs.Ws
open Go
theorem partE_eq {l : List UInt8} {i : Nat} (h : i < l.length) : partE l i = if letN l[i].toNat = true then scanE wordN l i else if digN l[i].toNat = true then scanE digN l i else if [60, 45, 62] <+: l.drop i then i + 3 else if [45, 62] <+: l.drop i then i + 2 else if l[i].toNat ∈ markL then i + 1 else i := by
  have h0 : 0 < (l.drop i).length := by rw [List.length_drop]; omega
  have e : (l.drop i)[0] = l[i] := by simp
  unfold partE
  rw [part_head h0, e]
  unfold scanE
  split
  · rfl
  · split
    · rfl
    · split
      · rfl
      · split
        · rfl
        · split <;> rfl
theorem digE_self {l : List UInt8} {i : Nat} (h : i < l.length) (hd : digN l[i].toNat = true) : i < scanE digN l i := by
  rw [scanE_yes h hd]
  unfold scanE
  omega
end Go.Proofs.Ws
namespace Go.Proofs.YthhkeobjjeldhaaGreatDoor
open Go.RowKit Go.Proofs.Ws
theorem rLetter_any (m : Nat) (w : World) : Calls Tryz.prog 53 #[.int .u8 m] w fun e w' => e = .returned (.bool (letN m)) ∧ w = w' := by
  have e : letN m = ((decide ((97 : Int) ≤ (m : Int)) && decide ((m : Int) ≤ 122)) || (decide ((65 : Int) ≤ (m : Int)) && decide ((m : Int) ≤ 90)) || ((m : Int) == 95)) := by
    unfold letN
    rw [Bool.eq_iff_iff]
    simp
    omega
  rw [e]
  clear e
  cases d1 : decide ((97 : Int) ≤ (m : Int)) <;> cases d2 : decide ((m : Int) ≤ 122) <;> cases d3 : decide ((65 : Int) ≤ (m : Int)) <;> cases d4 : decide ((m : Int) ≤ 90) <;> cases d5 : ((m : Int) == 95)
  all_goals
    go_enter Tryz.func53, Tryz.ntmps53
    go_wp2
    go_ret
    exact ⟨rfl, rfl⟩
theorem rDigit_any (m : Nat) (w : World) : Calls Tryz.prog 54 #[.int .u8 m] w fun e w' => e = .returned (.bool (digN m)) ∧ w = w' := by
  have e : digN m = (decide ((48 : Int) ≤ (m : Int)) && decide ((m : Int) ≤ 57)) := by
    unfold digN
    rw [Bool.eq_iff_iff]
    simp
    omega
  rw [e]
  clear e
  cases d1 : decide ((48 : Int) ≤ (m : Int)) <;> cases d2 : decide ((m : Int) ≤ 57)
  all_goals
    go_enter Tryz.func54, Tryz.ntmps54
    go_wp2
    go_ret
    exact ⟨rfl, rfl⟩
theorem cut_run (t : ByteArray) (i n : Nat) (h : i + n ≤ t.size) (W : World) : (Instr.slice 9 (.string t) (some (.int .i64 (i : Int))) (some (.int .i64 ((i : Int) + (n : Int)))) none).run Tryz.prog W = .ok (.string (t.extract i (i + n))) W := by
  have h1 := run_slice_string (P := Tryz.prog) W 9 t .i64 .i64 (i : Int) ((i : Int) + (n : Int)) Tryz.underlying9 (by omega) (by omega) (by omega)
  rw [h1, Int.toNat_natCast, show ((i : Int) + (n : Int)).toNat = i + n from by omega]
theorem pre_of (t : ByteArray) (i n : Nat) (p : List UInt8) (hp : p.length = n) : ((t.extract i (i + n)).toList == p) = decide (p <+: t.data.toList.drop i) := by
  rw [ext_take, Lib.toList_data, Nat.add_sub_cancel_left]
  rw [Bool.eq_iff_iff, beq_iff_eq, decide_eq_true_eq, List.prefix_iff_eq_take, hp]
  constructor
  · intro h; exact h.symm
  · intro h; exact h.symm
set_option maxRecDepth 100000 in
set_option maxHeartbeats 4000000 in
theorem rPart_let (t : ByteArray) (i : Nat) (w : World) (hm : t.size ≤ 4000) (hi : i < t.size) (hl : letN t[i].toNat = true) :
    Calls Tryz.prog 34 #[.string t, .int .i64 i] w fun e w' => e = .returned (.int .i64 (partE t.data.toList i : Nat)) ∧ Below w.heap.size w w' := by
  have hsz := ba_len t
  have hge : t.data.toList[i]'(by rw [hsz]; exact hi) = t[i] := rfl
  have hPE := partE_eq (l := t.data.toList) (i := i) (by rw [hsz]; exact hi)
  rw [hge] at hPE
  have HY := Lib.hid (fun (p : Nat → Bool) k (h : k < t.data.toList.length) => scanE_yes (p := p) (l := t.data.toList) h)
  have HN := Lib.hid (fun (p : Nat → Bool) k (h : k < t.data.toList.length) => scanE_no (p := p) (l := t.data.toList) h)
  have HE := Lib.hid (fun (p : Nat → Bool) k (h : t.data.toList.length ≤ k) => scanE_end (p := p) h)
  have HG : Hid (∀ k (h : k < t.size) (h' : k < t.data.toList.length), t.data.toList[k] = t[k]) := Lib.hid (fun k h h' => rfl)
  have HSZ := Lib.hid hsz
  have HL := Lib.hid (fun W => rLetter_any t[i].toNat W)
  have HD := Lib.hid (fun W => rDigit_any t[i].toNat W)
  rw [if_pos hl] at hPE
  rw [hl] at HL
  have HPE := Lib.hid hPE
  clear hsz hge hPE hl HD
  go_enter Tryz.func34, Tryz.ntmps34
  go_wp2_with fail
  refine (HL.out _).mono ?_
  rintro e w' ⟨rfl, rfl⟩
  go_wp2
  go_loopw [5] (fun v wr => ∃ k : Nat, k ≤ t.size ∧ v = .int .i64 k ∧ Hid (scanE wordN t.data.toList k = scanE wordN t.data.toList i) ∧ w = wr) (fun v _ => t.size - (intOf v).toNat)
  case atStart => exact ⟨i, by omega, rfl, Lib.hid rfl, rfl⟩
  case round =>
    obtain ⟨k, hk, rfl, HI, rfl⟩ := hrel
    by_cases hlt : k < t.size
    · have HP1 := Lib.hid (fun W => rLetter_any t[k].toNat W)
      have HP2 := Lib.hid (fun W => rDigit_any t[k].toNat W)
      have hg := HG.out k hlt (by rw [HSZ.out]; exact hlt)
      cases hc : letN t[k].toNat with
      | true =>
        have HI2 := Lib.hid ((HY.out wordN k (by rw [HSZ.out]; exact hlt) (by rw [hg]; unfold wordN; rw [hc]; rfl)).symm.trans HI.out)
        rw [hc] at HP1
        clear hc hg HI
        go_wp2_with fail
        refine (HP1.out _).mono ?_
        rintro e w' ⟨rfl, rfl⟩
        go_wp2
        go_roundw
        case rel => exact ⟨k + 1, by omega, by go_num, HI2, by first | rfl | trivial⟩
        case measure => simp [intOf]; omega
      | false =>
        rw [hc] at HP1
        cases hd : digN t[k].toNat with
        | true =>
          have HI2 := Lib.hid ((HY.out wordN k (by rw [HSZ.out]; exact hlt) (by rw [hg]; unfold wordN; rw [hd, Bool.or_true])).symm.trans HI.out)
          rw [hd] at HP2
          clear hc hd hg HI
          go_wp2_with fail
          refine (HP1.out _).mono ?_
          rintro e w' ⟨rfl, rfl⟩
          go_wp2_with fail
          refine (HP2.out _).mono ?_
          rintro e w' ⟨rfl, rfl⟩
          go_wp2
          go_roundw
          case rel => exact ⟨k + 1, by omega, by go_num, HI2, by first | rfl | trivial⟩
          case measure => simp [intOf]; omega
        | false =>
          have HI2 := Lib.hid ((HN.out wordN k (by rw [HSZ.out]; exact hlt) (by rw [hg]; unfold wordN; rw [hc, hd]; rfl)).symm.trans HI.out)
          have HF : Hid (partE t.data.toList i = k) := Lib.hid (by rw [HPE.out, ← HI2.out])
          rw [hd] at HP2
          clear hc hd hg HI HI2
          go_wp2_with fail
          refine (HP1.out _).mono ?_
          rintro e w' ⟨rfl, rfl⟩
          go_wp2_with fail
          refine (HP2.out _).mono ?_
          rintro e w' ⟨rfl, rfl⟩
          go_wp2
          go_ret
          exact ⟨by rw [HF.out]; rfl, Below.refl _ _⟩
    · have hkn : k = t.size := by omega
      have HI2 := Lib.hid ((HE.out wordN k (by rw [HSZ.out]; omega)).symm.trans HI.out)
      have HF : Hid (partE t.data.toList i = k) := Lib.hid (by rw [HPE.out, ← HI2.out])
      clear HI HI2
      subst hkn
      go_wp2
      go_ret
      exact ⟨by rw [HF.out]; rfl, Below.refl _ _⟩
set_option maxRecDepth 100000 in
set_option maxHeartbeats 4000000 in
theorem rPart_dig (t : ByteArray) (i : Nat) (w : World) (hm : t.size ≤ 4000) (hi : i < t.size) (hl : letN t[i].toNat = false) (hd : digN t[i].toNat = true) :
    Calls Tryz.prog 34 #[.string t, .int .i64 i] w fun e w' => e = .returned (.int .i64 (partE t.data.toList i : Nat)) ∧ Below w.heap.size w w' := by
  have hsz := ba_len t
  have hge : t.data.toList[i]'(by rw [hsz]; exact hi) = t[i] := rfl
  have hPE := partE_eq (l := t.data.toList) (i := i) (by rw [hsz]; exact hi)
  rw [hge] at hPE
  have HY := Lib.hid (fun (p : Nat → Bool) k (h : k < t.data.toList.length) => scanE_yes (p := p) (l := t.data.toList) h)
  have HN := Lib.hid (fun (p : Nat → Bool) k (h : k < t.data.toList.length) => scanE_no (p := p) (l := t.data.toList) h)
  have HE := Lib.hid (fun (p : Nat → Bool) k (h : t.data.toList.length ≤ k) => scanE_end (p := p) h)
  have HG : Hid (∀ k (h : k < t.size) (h' : k < t.data.toList.length), t.data.toList[k] = t[k]) := Lib.hid (fun k h h' => rfl)
  have HSZ := Lib.hid hsz
  have HL := Lib.hid (fun W => rLetter_any t[i].toNat W)
  have HD := Lib.hid (fun W => rDigit_any t[i].toNat W)
  rw [if_neg (by rw [hl]; decide), if_pos hd] at hPE
  have HGT := Lib.hid (digE_self (l := t.data.toList) (i := i) (by rw [hsz]; exact hi) hd)
  rw [hl] at HL
  have HPE := Lib.hid hPE
  clear hsz hge hPE hl hd HD
  go_enter Tryz.func34, Tryz.ntmps34
  go_wp2_with fail
  refine (HL.out _).mono ?_
  rintro e w' ⟨rfl, rfl⟩
  go_wp2
  go_loopw [5] (fun v wr => ∃ k : Nat, k ≤ t.size ∧ v = .int .i64 k ∧ Hid (scanE digN t.data.toList k = scanE digN t.data.toList i) ∧ w = wr) (fun v _ => t.size - (intOf v).toNat)
  case atStart => exact ⟨i, by omega, rfl, Lib.hid rfl, rfl⟩
  case round =>
    obtain ⟨k, hk, rfl, HI, rfl⟩ := hrel
    by_cases hlt : k < t.size
    · have HP2 := Lib.hid (fun W => rDigit_any t[k].toNat W)
      have hg := HG.out k hlt (by rw [HSZ.out]; exact hlt)
      cases hd : digN t[k].toNat with
      | true =>
        have HI2 := Lib.hid ((HY.out digN k (by rw [HSZ.out]; exact hlt) (by rw [hg]; exact hd)).symm.trans HI.out)
        rw [hd] at HP2
        clear hd hg HI
        go_wp2_with fail
        refine (HP2.out _).mono ?_
        rintro e w' ⟨rfl, rfl⟩
        go_wp2
        go_roundw
        case rel => exact ⟨k + 1, by omega, by go_num, HI2, by first | rfl | trivial⟩
        case measure => simp [intOf]; omega
      | false =>
        have HI2 := Lib.hid ((HN.out digN k (by rw [HSZ.out]; exact hlt) (by rw [hg]; exact hd)).symm.trans HI.out)
        have HF : Hid (partE t.data.toList i = k) := Lib.hid (by rw [HPE.out, ← HI2.out])
        have hgt : i < k := by have := HGT.out; rw [← HPE.out, HF.out] at this; exact this
        have d1 : decide ((i : Int) < (k : Int)) = true := decide_eq_true (by omega)
        have d2 : decide (i < k) = true := decide_eq_true hgt
        rw [hd] at HP2
        clear hd hg HI HI2
        go_wp2_with fail
        refine (HP2.out _).mono ?_
        rintro e w' ⟨rfl, rfl⟩
        go_wp2
        go_ret
        exact ⟨by rw [HF.out]; rfl, Below.refl _ _⟩
    · have hkn : k = t.size := by omega
      have HI2 := Lib.hid ((HE.out digN k (by rw [HSZ.out]; omega)).symm.trans HI.out)
      have HF : Hid (partE t.data.toList i = k) := Lib.hid (by rw [HPE.out, ← HI2.out])
      have hgt : i < k := by omega
      have d1 : decide ((i : Int) < (k : Int)) = true := decide_eq_true (by omega)
      have d2 : decide (i < k) = true := decide_eq_true hgt
      clear HI HI2
      subst hkn
      go_wp2
      go_ret
      exact ⟨by rw [HF.out]; rfl, Below.refl _ _⟩
set_option maxRecDepth 100000 in
set_option maxHeartbeats 4000000 in
theorem rPart_sign (t : ByteArray) (i : Nat) (w : World) (hm : t.size ≤ 4000) (hi : i < t.size) (hl : letN t[i].toNat = false) (hd : digN t[i].toNat = false) :
    Calls Tryz.prog 34 #[.string t, .int .i64 i] w fun e w' => e = .returned (.int .i64 (partE t.data.toList i : Nat)) ∧ Below w.heap.size w w' := by
  have hsz := ba_len t
  have hge : t.data.toList[i]'(by rw [hsz]; exact hi) = t[i] := rfl
  have hPE := partE_eq (l := t.data.toList) (i := i) (by rw [hsz]; exact hi)
  rw [hge] at hPE
  have HY := Lib.hid (fun (p : Nat → Bool) k (h : k < t.data.toList.length) => scanE_yes (p := p) (l := t.data.toList) h)
  have HN := Lib.hid (fun (p : Nat → Bool) k (h : k < t.data.toList.length) => scanE_no (p := p) (l := t.data.toList) h)
  have HE := Lib.hid (fun (p : Nat → Bool) k (h : t.data.toList.length ≤ k) => scanE_end (p := p) h)
  have HG : Hid (∀ k (h : k < t.size) (h' : k < t.data.toList.length), t.data.toList[k] = t[k]) := Lib.hid (fun k h h' => rfl)
  have HSZ := Lib.hid hsz
  have HL := Lib.hid (fun W => rLetter_any t[i].toNat W)
  have HD := Lib.hid (fun W => rDigit_any t[i].toNat W)
  rw [if_neg (by rw [hl]; decide), if_neg (by rw [hd]; decide)] at hPE
  rw [hl] at HL
  rw [hd] at HD
  have q3 := pre_of t i 3 [60, 45, 62] rfl
  have q2 := pre_of t i 2 [45, 62] rfl
  have n3 : t.size < i + 3 → ¬ [60, 45, 62] <+: t.data.toList.drop i := fun h hp => by
    have := hp.length_le
    rw [List.length_drop, hsz] at this
    have e : ([60, 45, 62] : List UInt8).length = 3 := rfl
    omega
  have n2 : t.size < i + 2 → ¬ [45, 62] <+: t.data.toList.drop i := fun h hp => by
    have := hp.length_le
    rw [List.length_drop, hsz] at this
    have e : ([45, 62] : List UInt8).length = 2 := rfl
    omega
  have HN3 := Lib.hid n3
  have HN2 := Lib.hid n2
  have HPE := Lib.hid hPE
  clear n3 n2 hPE hl hd hge HY HN HE HG HSZ hsz
  have nl : ((i : Nat) : Int) = (i : Int) := rfl
  have di : decide ((i : Int) < (i : Int)) = false := decide_eq_false (by omega)
  have dj : decide (i < i) = false := decide_eq_false (by omega)
  have dl : decide ((i : Int) < (t.size : Int)) = true := decide_eq_true (by omega)
  have hw3 : wrap64 ((i : Int) + 3) = (i : Int) + 3 ∨ t.size < i + 3 := by
    by_cases c : t.size < i + 3
    · exact .inr c
    · exact .inl (by unfold wrap64; omega)
  by_cases c3 : i + 3 ≤ t.size
  · have b3 : decide ((i : Int) + 3 ≤ (t.size : Int)) = true := decide_eq_true (by omega)
    have b2 : decide ((i : Int) + 2 ≤ (t.size : Int)) = true := decide_eq_true (by omega)
    have hS3 : ∀ W, (Instr.slice 9 (.string t) (some (.int .i64 (i : Int))) (some (.int .i64 ((i : Int) + 3))) none).run Tryz.prog W = .ok (.string (t.extract i (i + 3))) W := cut_run t i 3 c3
    have hS2 : ∀ W, (Instr.slice 9 (.string t) (some (.int .i64 (i : Int))) (some (.int .i64 ((i : Int) + 2))) none).run Tryz.prog W = .ok (.string (t.extract i (i + 2))) W := cut_run t i 2 (by omega)
    by_cases p3 : [60, 45, 62] <+: t.data.toList.drop i
    · have HF : Hid (partE t.data.toList i = i + 3) := Lib.hid (by rw [HPE.out, if_pos p3])
      rw [decide_eq_true p3] at q3
      clear p3 HPE HN3 HN2 hw3
      go_enter Tryz.func34, Tryz.ntmps34
      go_wp2_with fail
      refine (HL.out _).mono ?_
      rintro e w' ⟨rfl, rfl⟩
      go_wp2
      go_loopw [5] (fun v wr => v = .int .i64 i ∧ w = wr) (fun _ _ => 0)
      case atStart => exact ⟨rfl, rfl⟩
      case round =>
        obtain ⟨rfl, rfl⟩ := hrel
        go_wp2_with fail
        refine (HD.out _).mono ?_
        rintro e w' ⟨rfl, rfl⟩
        go_wp2
        go_ret
        exact ⟨by rw [HF.out]; rfl, Below.refl _ _⟩
    · rw [decide_eq_false p3] at q3
      by_cases p2 : [45, 62] <+: t.data.toList.drop i
      · have HF : Hid (partE t.data.toList i = i + 2) := Lib.hid (by rw [HPE.out, if_neg p3, if_pos p2])
        rw [decide_eq_true p2] at q2
        clear p2 p3 HPE HN3 HN2 hw3
        go_enter Tryz.func34, Tryz.ntmps34
        go_wp2_with fail
        refine (HL.out _).mono ?_
        rintro e w' ⟨rfl, rfl⟩
        go_wp2
        go_loopw [5] (fun v wr => v = .int .i64 i ∧ w = wr) (fun _ _ => 0)
        case atStart => exact ⟨rfl, rfl⟩
        case round =>
          obtain ⟨rfl, rfl⟩ := hrel
          go_wp2_with fail
          refine (HD.out _).mono ?_
          rintro e w' ⟨rfl, rfl⟩
          go_wp2
          go_ret
          exact ⟨by rw [HF.out]; rfl, Below.refl _ _⟩
      · rw [decide_eq_false p2] at q2
        have HF : Hid (partE t.data.toList i = if t[i].toNat ∈ markL then i + 1 else i) := Lib.hid (by rw [HPE.out, if_neg p3, if_neg p2])
        clear p2 p3 HPE HN3 HN2 hw3
        go_enter Tryz.func34, Tryz.ntmps34
        go_wp2_with fail
        refine (HL.out _).mono ?_
        rintro e w' ⟨rfl, rfl⟩
        go_wp2
        go_loopw [5] (fun v wr => v = .int .i64 i ∧ w = wr) (fun _ _ => 0)
        case atStart => exact ⟨rfl, rfl⟩
        case round =>
          obtain ⟨rfl, rfl⟩ := hrel
          go_wp2_with fail
          refine (HD.out _).mono ?_
          rintro e w' ⟨rfl, rfl⟩
          go_wp2
          go_loopw [7] (fun v wr => ∃ k : Nat, k ≤ 10 ∧ v = .int .i64 k ∧ Hid (∀ j, j < k → mark8.getD j 0 ≠ t[i]) ∧ Hid (Below w.heap.size w wr)) (fun v _ => 10 - (intOf v).toNat)
          case atStart => exact ⟨0, Nat.zero_le _, rfl, Lib.hid (fun j hj => absurd hj (by omega)), Lib.hid (Below.refl _ _)⟩
          case round =>
            obtain ⟨k, hk, rfl, HI, HBW⟩ := hrel
            by_cases hlt : k < 10
            · have hkz : k < (⟨#[126, 38, 124, 40, 41, 91, 93, 44, 46, 33]⟩ : ByteArray).size := hlt
              have hmk : mark8.getD k 0 = (⟨#[126, 38, 124, 40, 41, 91, 93, 44, 46, 33]⟩ : ByteArray)[k] := by
                have hk8 : k < mark8.length := hlt
                rw [List.getD_eq_getElem?_getD, List.getElem?_eq_getElem hk8]; rfl
              have d10 : decide ((k : Int) < 10) = true := decide_eq_true (by omega)
              have d11 : decide (k < 10) = true := decide_eq_true hlt
              by_cases he : (⟨#[126, 38, 124, 40, 41, 91, 93, 44, 46, 33]⟩ : ByteArray)[k] = t[i]
              · have q : ((((⟨#[126, 38, 124, 40, 41, 91, 93, 44, 46, 33]⟩ : ByteArray)[k].toNat : Nat) : Int) == ((t[i].toNat : Nat) : Int)) = true := by rw [he, beq_iff_eq]
                have HF2 : Hid (partE t.data.toList i = i + 1) := Lib.hid (by
                  rw [HF.out, if_pos]
                  refine (mark8_iff _).1 ?_
                  rw [← he, ← hmk, List.getD_eq_getElem?_getD, List.getElem?_eq_getElem (show k < mark8.length from hlt)]
                  exact List.getElem_mem _)
                clear he HF HI q3 q2 hmk
                generalize hSG : (⟨#[126, 38, 124, 40, 41, 91, 93, 44, 46, 33]⟩ : ByteArray) = SG at *
                go_wp2
                go_quiet (fail)
                go_wp2
                go_ret
                exact ⟨by rw [HF2.out]; rfl, by first | exact HBW.out | exact below_drewN HBW.out _⟩
              · have q : ((((⟨#[126, 38, 124, 40, 41, 91, 93, 44, 46, 33]⟩ : ByteArray)[k].toNat : Nat) : Int) == ((t[i].toNat : Nat) : Int)) = false := by
                  rw [beq_eq_false_iff_ne]
                  intro h2
                  exact he (UInt8.toNat_inj.1 (by omega))
                have HI2 : Hid (∀ j, j < k + 1 → mark8.getD j 0 ≠ t[i]) := Lib.hid (fun j hj => by
                  by_cases ej : j = k
                  · subst ej; rw [hmk]; exact he
                  · exact HI.out j (by omega))
                clear he HI q3 q2 hmk
                generalize hSG : (⟨#[126, 38, 124, 40, 41, 91, 93, 44, 46, 33]⟩ : ByteArray) = SG at *
                go_wp2
                go_quiet (fail)
                go_wp2
                subst hSG
                go_roundw
                case rel => exact ⟨k + 1, by omega, by go_num, HI2, Lib.hid (below_drewN HBW.out _)⟩
                case measure => simp [intOf]; omega
            · have hk10 : k = 10 := by omega
              subst hk10
              have HF2 : Hid (partE t.data.toList i = i) := Lib.hid (by
                rw [HF.out, if_neg]
                intro hm
                have hm2 : t[i] ∈ mark8 := (mark8_iff _).2 hm
                obtain ⟨j, hj, hje⟩ := List.mem_iff_getElem.1 hm2
                have hj10 : j < 10 := hj
                exact HI.out j hj10 (by rw [List.getD_eq_getElem?_getD, List.getElem?_eq_getElem hj]; exact hje))
              clear HI HF q3 q2
              go_wp2
              go_ret
              exact ⟨by rw [HF2.out]; rfl, by first | exact HBW.out | exact below_drewN HBW.out _⟩
  · have b3 : decide ((i : Int) + 3 ≤ (t.size : Int)) = false := decide_eq_false (by omega)
    have p3 := HN3.out (by omega)
    by_cases c2 : i + 2 ≤ t.size
    · have b2 : decide ((i : Int) + 2 ≤ (t.size : Int)) = true := decide_eq_true (by omega)
      have hS2 : ∀ W, (Instr.slice 9 (.string t) (some (.int .i64 (i : Int))) (some (.int .i64 ((i : Int) + 2))) none).run Tryz.prog W = .ok (.string (t.extract i (i + 2))) W := cut_run t i 2 c2
      by_cases p2 : [45, 62] <+: t.data.toList.drop i
      · have HF : Hid (partE t.data.toList i = i + 2) := Lib.hid (by rw [HPE.out, if_neg p3, if_pos p2])
        rw [decide_eq_true p2] at q2
        clear p2 p3 HPE HN3 HN2 hw3 q3
        go_enter Tryz.func34, Tryz.ntmps34
        go_wp2_with fail
        refine (HL.out _).mono ?_
        rintro e w' ⟨rfl, rfl⟩
        go_wp2
        go_loopw [5] (fun v wr => v = .int .i64 i ∧ w = wr) (fun _ _ => 0)
        case atStart => exact ⟨rfl, rfl⟩
        case round =>
          obtain ⟨rfl, rfl⟩ := hrel
          go_wp2_with fail
          refine (HD.out _).mono ?_
          rintro e w' ⟨rfl, rfl⟩
          go_wp2
          go_ret
          exact ⟨by rw [HF.out]; rfl, Below.refl _ _⟩
      · rw [decide_eq_false p2] at q2
        have HF : Hid (partE t.data.toList i = if t[i].toNat ∈ markL then i + 1 else i) := Lib.hid (by rw [HPE.out, if_neg p3, if_neg p2])
        clear p2 p3 HPE HN3 HN2 hw3
        go_enter Tryz.func34, Tryz.ntmps34
        go_wp2_with fail
        refine (HL.out _).mono ?_
        rintro e w' ⟨rfl, rfl⟩
        go_wp2
        go_loopw [5] (fun v wr => v = .int .i64 i ∧ w = wr) (fun _ _ => 0)
        case atStart => exact ⟨rfl, rfl⟩
        case round =>
          obtain ⟨rfl, rfl⟩ := hrel
          go_wp2_with fail
          refine (HD.out _).mono ?_
          rintro e w' ⟨rfl, rfl⟩
          go_wp2
          go_loopw [7] (fun v wr => ∃ k : Nat, k ≤ 10 ∧ v = .int .i64 k ∧ Hid (∀ j, j < k → mark8.getD j 0 ≠ t[i]) ∧ Hid (Below w.heap.size w wr)) (fun v _ => 10 - (intOf v).toNat)
          case atStart => exact ⟨0, Nat.zero_le _, rfl, Lib.hid (fun j hj => absurd hj (by omega)), Lib.hid (Below.refl _ _)⟩
          case round =>
            obtain ⟨k, hk, rfl, HI, HBW⟩ := hrel
            by_cases hlt : k < 10
            · have hkz : k < (⟨#[126, 38, 124, 40, 41, 91, 93, 44, 46, 33]⟩ : ByteArray).size := hlt
              have hmk : mark8.getD k 0 = (⟨#[126, 38, 124, 40, 41, 91, 93, 44, 46, 33]⟩ : ByteArray)[k] := by
                have hk8 : k < mark8.length := hlt
                rw [List.getD_eq_getElem?_getD, List.getElem?_eq_getElem hk8]; rfl
              have d10 : decide ((k : Int) < 10) = true := decide_eq_true (by omega)
              have d11 : decide (k < 10) = true := decide_eq_true hlt
              by_cases he : (⟨#[126, 38, 124, 40, 41, 91, 93, 44, 46, 33]⟩ : ByteArray)[k] = t[i]
              · have q : ((((⟨#[126, 38, 124, 40, 41, 91, 93, 44, 46, 33]⟩ : ByteArray)[k].toNat : Nat) : Int) == ((t[i].toNat : Nat) : Int)) = true := by rw [he, beq_iff_eq]
                have HF2 : Hid (partE t.data.toList i = i + 1) := Lib.hid (by
                  rw [HF.out, if_pos]
                  refine (mark8_iff _).1 ?_
                  rw [← he, ← hmk, List.getD_eq_getElem?_getD, List.getElem?_eq_getElem (show k < mark8.length from hlt)]
                  exact List.getElem_mem _)
                clear he HF HI q3 q2 hmk
                generalize hSG : (⟨#[126, 38, 124, 40, 41, 91, 93, 44, 46, 33]⟩ : ByteArray) = SG at *
                go_wp2
                go_quiet (fail)
                go_wp2
                go_ret
                exact ⟨by rw [HF2.out]; rfl, by first | exact HBW.out | exact below_drewN HBW.out _⟩
              · have q : ((((⟨#[126, 38, 124, 40, 41, 91, 93, 44, 46, 33]⟩ : ByteArray)[k].toNat : Nat) : Int) == ((t[i].toNat : Nat) : Int)) = false := by
                  rw [beq_eq_false_iff_ne]
                  intro h2
                  exact he (UInt8.toNat_inj.1 (by omega))
                have HI2 : Hid (∀ j, j < k + 1 → mark8.getD j 0 ≠ t[i]) := Lib.hid (fun j hj => by
                  by_cases ej : j = k
                  · subst ej; rw [hmk]; exact he
                  · exact HI.out j (by omega))
                clear he HI q3 q2 hmk
                generalize hSG : (⟨#[126, 38, 124, 40, 41, 91, 93, 44, 46, 33]⟩ : ByteArray) = SG at *
                go_wp2
                go_quiet (fail)
                go_wp2
                subst hSG
                go_roundw
                case rel => exact ⟨k + 1, by omega, by go_num, HI2, Lib.hid (below_drewN HBW.out _)⟩
                case measure => simp [intOf]; omega
            · have hk10 : k = 10 := by omega
              subst hk10
              have HF2 : Hid (partE t.data.toList i = i) := Lib.hid (by
                rw [HF.out, if_neg]
                intro hm
                have hm2 : t[i] ∈ mark8 := (mark8_iff _).2 hm
                obtain ⟨j, hj, hje⟩ := List.mem_iff_getElem.1 hm2
                have hj10 : j < 10 := hj
                exact HI.out j hj10 (by rw [List.getD_eq_getElem?_getD, List.getElem?_eq_getElem hj]; exact hje))
              clear HI HF q3 q2
              go_wp2
              go_ret
              exact ⟨by rw [HF2.out]; rfl, by first | exact HBW.out | exact below_drewN HBW.out _⟩
    · have b2 : decide ((i : Int) + 2 ≤ (t.size : Int)) = false := decide_eq_false (by omega)
      have p2 := HN2.out (by omega)
      have HF : Hid (partE t.data.toList i = if t[i].toNat ∈ markL then i + 1 else i) := Lib.hid (by rw [HPE.out, if_neg p3, if_neg p2])
      clear p2 p3 HPE HN3 HN2 hw3
      go_enter Tryz.func34, Tryz.ntmps34
      go_wp2_with fail
      refine (HL.out _).mono ?_
      rintro e w' ⟨rfl, rfl⟩
      go_wp2
      go_loopw [5] (fun v wr => v = .int .i64 i ∧ w = wr) (fun _ _ => 0)
      case atStart => exact ⟨rfl, rfl⟩
      case round =>
        obtain ⟨rfl, rfl⟩ := hrel
        go_wp2_with fail
        refine (HD.out _).mono ?_
        rintro e w' ⟨rfl, rfl⟩
        go_wp2
        go_loopw [7] (fun v wr => ∃ k : Nat, k ≤ 10 ∧ v = .int .i64 k ∧ Hid (∀ j, j < k → mark8.getD j 0 ≠ t[i]) ∧ Hid (Below w.heap.size w wr)) (fun v _ => 10 - (intOf v).toNat)
        case atStart => exact ⟨0, Nat.zero_le _, rfl, Lib.hid (fun j hj => absurd hj (by omega)), Lib.hid (Below.refl _ _)⟩
        case round =>
          obtain ⟨k, hk, rfl, HI, HBW⟩ := hrel
          by_cases hlt : k < 10
          · have hkz : k < (⟨#[126, 38, 124, 40, 41, 91, 93, 44, 46, 33]⟩ : ByteArray).size := hlt
            have hmk : mark8.getD k 0 = (⟨#[126, 38, 124, 40, 41, 91, 93, 44, 46, 33]⟩ : ByteArray)[k] := by
              have hk8 : k < mark8.length := hlt
              rw [List.getD_eq_getElem?_getD, List.getElem?_eq_getElem hk8]; rfl
            have d10 : decide ((k : Int) < 10) = true := decide_eq_true (by omega)
            have d11 : decide (k < 10) = true := decide_eq_true hlt
            by_cases he : (⟨#[126, 38, 124, 40, 41, 91, 93, 44, 46, 33]⟩ : ByteArray)[k] = t[i]
            · have q : ((((⟨#[126, 38, 124, 40, 41, 91, 93, 44, 46, 33]⟩ : ByteArray)[k].toNat : Nat) : Int) == ((t[i].toNat : Nat) : Int)) = true := by rw [he, beq_iff_eq]
              have HF2 : Hid (partE t.data.toList i = i + 1) := Lib.hid (by
                rw [HF.out, if_pos]
                refine (mark8_iff _).1 ?_
                rw [← he, ← hmk, List.getD_eq_getElem?_getD, List.getElem?_eq_getElem (show k < mark8.length from hlt)]
                exact List.getElem_mem _)
              clear he HF HI q3 q2 hmk
              generalize hSG : (⟨#[126, 38, 124, 40, 41, 91, 93, 44, 46, 33]⟩ : ByteArray) = SG at *
              go_wp2
              go_quiet (fail)
              go_wp2
              go_ret
              exact ⟨by rw [HF2.out]; rfl, by first | exact HBW.out | exact below_drewN HBW.out _⟩
            · have q : ((((⟨#[126, 38, 124, 40, 41, 91, 93, 44, 46, 33]⟩ : ByteArray)[k].toNat : Nat) : Int) == ((t[i].toNat : Nat) : Int)) = false := by
                rw [beq_eq_false_iff_ne]
                intro h2
                exact he (UInt8.toNat_inj.1 (by omega))
              have HI2 : Hid (∀ j, j < k + 1 → mark8.getD j 0 ≠ t[i]) := Lib.hid (fun j hj => by
                by_cases ej : j = k
                · subst ej; rw [hmk]; exact he
                · exact HI.out j (by omega))
              clear he HI q3 q2 hmk
              generalize hSG : (⟨#[126, 38, 124, 40, 41, 91, 93, 44, 46, 33]⟩ : ByteArray) = SG at *
              go_wp2
              go_quiet (fail)
              go_wp2
              subst hSG
              go_roundw
              case rel => exact ⟨k + 1, by omega, by go_num, HI2, Lib.hid (below_drewN HBW.out _)⟩
              case measure => simp [intOf]; omega
          · have hk10 : k = 10 := by omega
            subst hk10
            have HF2 : Hid (partE t.data.toList i = i) := Lib.hid (by
              rw [HF.out, if_neg]
              intro hm
              have hm2 : t[i] ∈ mark8 := (mark8_iff _).2 hm
              obtain ⟨j, hj, hje⟩ := List.mem_iff_getElem.1 hm2
              have hj10 : j < 10 := hj
              exact HI.out j hj10 (by rw [List.getD_eq_getElem?_getD, List.getElem?_eq_getElem hj]; exact hje))
            clear HI HF q3 q2
            go_wp2
            go_ret
            exact ⟨by rw [HF2.out]; rfl, by first | exact HBW.out | exact below_drewN HBW.out _⟩
end Go.Proofs.YthhkeobjjeldhaaGreatDoor
/- Layer 6: Tokens of the reference. -/
namespace Go.Proofs.YthhkeobjjeldhaaGreatDoor
open Go.RowKit Go.Proofs.Ws
theorem rPart_any (t : ByteArray) (i : Nat) (w : World) (hm : t.size ≤ 4000) (hi : i < t.size) :
    Calls Tryz.prog 34 #[.string t, .int .i64 i] w fun e w' => e = .returned (.int .i64 (partE t.data.toList i : Nat)) ∧ Below w.heap.size w w' := by
  cases hl : letN t[i].toNat with
  | true => exact rPart_let t i w hm hi hl
  | false =>
    cases hd : digN t[i].toNat with
    | true => exact rPart_dig t i w hm hi hl hd
    | false => exact rPart_sign t i w hm hi hl hd
theorem cut_to (t : ByteArray) (i k : Nat) (h1 : i ≤ k) (h2 : k ≤ t.size) (W : World) : (Instr.slice 9 (.string t) (some (.int .i64 (i : Int))) (some (.int .i64 (k : Int))) none).run Tryz.prog W = .ok (.string (t.extract i k)) W := by
  have h := run_slice_string (P := Tryz.prog) W 9 t .i64 .i64 (i : Int) (k : Int) Tryz.underlying9 (by omega) (by omega) (by omega)
  rw [h, Int.toNat_natCast, Int.toNat_natCast]
set_option maxRecDepth 100000 in
set_option maxHeartbeats 2000000 in
theorem rTokens_any (t : ByteArray) (w : World) (hm : t.size ≤ maxLen) :
    Calls Tryz.prog 17 #[.string t] w fun e w' => ∃ A1 c1 A2 c2, e = .returned (.tuple #[.slice A1 (tokV t).words.length c1, .slice A2 (tokV t).ats.length c2, .int .i64 ((tokV t).pos : Int), .int .i64 (tokV t).err]) ∧
      Reads w' w'.heap.size 1 A1 (tokV t).words.length (ss (tokV t).words) ∧ Reads w' w'.heap.size 1 A2 (tokV t).ats.length (ni (tokV t).ats) ∧ Below w.heap.size w w' := by
  unfold maxLen at hm
  by_cases h4 : 4000 < t.size
  · have hd : decide ((4000 : Int) < (t.size : Int)) = true := decide_eq_true (by omega)
    have hd2 : decide (4000 < t.size) = true := decide_eq_true h4
    have HV : Hid (tokV t = ⟨[], [], 0, 8⟩) := Lib.hid (by unfold tokV; rw [if_pos h4])
    rw [HV.out]
    clear h4
    go_enter Tryz.func17, Tryz.ntmps17
    go_wp2
    (try simp only [Exit.inBlock, Exit.then])
    refine bodyPost_ret (results_tmp4 rfl _ _ _) rfl ?_
    exact ⟨none, 0, none, 0, rfl, Reads.none_, Reads.none_, Below.refl _ _⟩
  · have hd : decide ((4000 : Int) < (t.size : Int)) = false := decide_eq_false (by omega)
    have hd2 : decide (4000 < t.size) = false := decide_eq_false h4
    have HV : Hid (tokV t = tokF (t.size + 1) (t.data.toList.drop 0) 0 [] []) := Lib.hid (by unfold tokV; rw [if_neg h4]; rfl)
    have h40 : t.size ≤ 4000 := by omega
    generalize tokV t = T at *
    have hsz := ba_len t
    have HSP := Lib.hid (fun (f k : Nat) ws at_ (h : k < t.data.toList.length) => tokF_space (l := t.data.toList) (fuel := f) (ws := ws) (at_ := at_) h)
    have HBD := Lib.hid (fun (f k : Nat) ws at_ (h : k < t.data.toList.length) => tokF_bad (l := t.data.toList) (fuel := f) (ws := ws) (at_ := at_) h)
    have HWD := Lib.hid (fun (f k : Nat) ws at_ (h : k < t.data.toList.length) => tokF_word (l := t.data.toList) (fuel := f) (ws := ws) (at_ := at_) h)
    have HEN := Lib.hid (fun (f k : Nat) ws at_ (h : t.data.toList.length ≤ k) => tokF_end (fuel := f) (ws := ws) (at_ := at_) h)
    have HPL := Lib.hid (fun k => partL_le (t.data.toList.drop k))
    have HEX : Hid (∀ k, (t.extract k t.size).data.toList = t.data.toList.drop k) := Lib.hid (fun k => by
      rw [ext_take]
      simp only
      rw [List.take_of_length_le]
      rw [List.length_drop, hsz]; exact Nat.le_refl _)
    have HSZ := Lib.hid hsz
    obtain ⟨i0, hi, hz0, hz1, hz2⟩ := info_parts Tryz.infoS
    obtain ⟨j0, hj, hy0, hy1, hy2⟩ := info_parts Tryz.infoI6
    clear hsz h4
    go_enter Tryz.func17, Tryz.ntmps17
    go_wp2
    go_loopw [6, 7, 8] (fun vw va i wr => ∃ (k f : Nat) (ws : List ByteArray) (as_ : List Nat), k ≤ t.size ∧ i = .int .i64 k ∧ Hid (t.size < k + f ∧ T = tokF f (t.data.toList.drop k) k ws as_) ∧ ws.length ≤ k ∧ as_.length ≤ k ∧ Hid (wr.ownsRow w.heap.size 9 1 vw ws.length (ss ws)) ∧ Hid (wr.ownsRow w.heap.size 3 1 va as_.length (ni as_)) ∧ Hid (Below w.heap.size w wr)) (fun _ _ i _ => t.size - (intOf i).toNat)
    case atStart => exact ⟨0, t.size + 1, [], [], Nat.zero_le _, rfl, Lib.hid ⟨by omega, HV.out⟩, Nat.zero_le _, Nat.zero_le _, Lib.hid (World.ownsRow_nil _ _ _ _), Lib.hid (World.ownsRow_nil _ _ _ _), Lib.hid (Below.refl _ _)⟩
    case round =>
      obtain ⟨k, f, ws, as_, hk, rfl, HI, hwl, hal, HW, HA, HB⟩ := hrel
      by_cases hlt : k < t.size
      · obtain ⟨g, hf⟩ : ∃ g, f = g + 1 := ⟨f - 1, by have := HI.out.1; omega⟩
        subst hf
        have hkl : k < t.data.toList.length := by rw [HSZ.out]; exact hlt
        have hge : t.data.toList[k] = t[k] := rfl
        have hsp : spaceN t[k].toNat = (((t[k].toNat : Int) == 32) || ((t[k].toNat : Int) == 9) || ((t[k].toNat : Int) == 10)) := by
          unfold spaceN
          rw [Bool.eq_iff_iff]
          simp
          omega
        cases hs : spaceN t[k].toNat with
        | true =>
          have HI2 : Hid (t.size < (k + 1) + g ∧ T = tokF g (t.data.toList.drop (k + 1)) (k + 1) ws as_) := Lib.hid ⟨by have := HI.out.1; omega, by rw [HI.out.2]; exact HSP.out g k ws as_ hkl (by rw [hge]; exact hs)⟩
          rw [hs] at hsp
          clear hs hge HI
          cases d1 : ((t[k].toNat : Int) == 32) with
          | true =>
            clear hsp
            go_wp2
            go_roundw
            case rel => exact ⟨k + 1, g, ws, as_, by omega, by go_num, HI2, by omega, by omega, HW, HA, HB⟩
            case measure => simp [intOf]; omega
          | false =>
            cases d2 : ((t[k].toNat : Int) == 9) with
            | true =>
              clear hsp
              go_wp2
              go_roundw
              case rel => exact ⟨k + 1, g, ws, as_, by omega, by go_num, HI2, by omega, by omega, HW, HA, HB⟩
              case measure => simp [intOf]; omega
            | false =>
              have d3 : ((t[k].toNat : Int) == 10) = true := by rw [d1, d2] at hsp; simpa using hsp.symm
              clear hsp
              go_wp2
              go_roundw
              case rel => exact ⟨k + 1, g, ws, as_, by omega, by go_num, HI2, by omega, by omega, HW, HA, HB⟩
              case measure => simp [intOf]; omega
        | false =>
          have hsf : spaceN t.data.toList[k].toNat = false := by rw [hge]; exact hs
          have d123 : ((t[k].toNat : Int) == 32) = false ∧ ((t[k].toNat : Int) == 9) = false ∧ ((t[k].toNat : Int) == 10) = false := by
            rw [hs] at hsp
            have := hsp.symm
            simp only [Bool.or_eq_false_iff] at this
            exact ⟨this.1.1, this.1.2, this.2⟩
          obtain ⟨d1, d2, d3⟩ := d123
          have HPT := Lib.hid (fun W => rPart_any t k W h40 hlt)
          have hpl := HPL.out k
          rw [List.length_drop, HSZ.out] at hpl
          have hpE : partE t.data.toList k = k + partL (t.data.toList.drop k) := rfl
          clear hs hge hsp
          by_cases hp0 : partL (t.data.toList.drop k) = 0
          · have HF : Hid (T = ⟨[], [], k, 4⟩) := Lib.hid (by rw [HI.out.2]; exact HBD.out g k ws as_ hkl hsf (by unfold partE; omega))
            have hq : (((partE t.data.toList k : Nat) : Int) == (k : Int)) = true := by rw [beq_iff_eq, hpE]; omega
            generalize partE t.data.toList k = K at *
            clear hp0 hpl hsf HI hpE
            go_wp2_with fail
            refine (HPT.out _).mono ?_
            rintro e w' ⟨rfl, hb⟩
            have HB' := Lib.hid (HB.out.trans (hb.mono HB.out.size))
            clear hb
            go_wp2
            (try simp only [Exit.inBlock, Exit.then])
            refine bodyPost_ret (results_tmp4 rfl _ _ _) rfl ?_
            rw [HF.out]
            exact ⟨none, 0, none, 0, rfl, Reads.none_, Reads.none_, HB'.out⟩
          · have HI2 : Hid (T = tokF g (t.data.toList.drop (partE t.data.toList k)) (partE t.data.toList k) (ws ++ [t.extract k (partE t.data.toList k)]) (as_ ++ [k])) := Lib.hid (by
              rw [HI.out.2]
              have := HWD.out g k ws as_ hkl hsf (by unfold partE; omega)
              rw [this, ext_take])
            have hfu : t.size < k + (g + 1) := HI.out.1
            have hq : (((partE t.data.toList k : Nat) : Int) == (k : Int)) = false := by rw [beq_eq_false_iff_ne, hpE]; omega
            have hK1 : k < partE t.data.toList k := by omega
            have hK2 : partE t.data.toList k ≤ t.size := by omega
            have hcut := cut_to t k (partE t.data.toList k) (by omega) hK2
            generalize partE t.data.toList k = K at *
            clear HI hsf HSP HBD HWD HPL HEX hp0 hpl hpE
            go_wp2_with fail
            refine (HPT.out _).mono ?_
            rintro e wp ⟨rfl, hb⟩
            have HWp := Lib.hid (own_keep1 HW.out (fun g hg => hb.block g (HW.out.lt g hg).2))
            have HAp := Lib.hid (own_keep1 HA.out (fun g hg => hb.block g (HA.out.lt g hg).2))
            have HBp := Lib.hid (HB.out.trans (hb.mono HB.out.size))
            clear hb HW HA HB HPT
            have HW := HWp
            have HA := HAp
            have HB := HBp
            clear HWp HAp HBp
            have hown := HW.out
            have hs0 := HB.out.size
            go_wp2_with (at_builtin; refine wpList_append_own _ rfl _ _ 22 rfl w.heap.size 9 i0 (.string ByteArray.empty) 1 16 Tryz.underlying22 hi hz0 hz1 hz2 rfl (by decide) _ _ _ rfl (hown.alloc _) ⟨wp.heap.size, 0, none⟩ 1 1 [.string (t.extract k K)] rfl rfl ?c1 ?c2 ?c3 ?c4 ?c5 ?_)
            case c1 =>
              intro j u hj
              match j, hj with
              | 0, hj => simp at hj; subst hj; simp [Addr.add]
            case c2 => intro u hu; simp at hu; subst hu; rfl
            case c3 => unfold maxLen; omega
            case c4 => omega
            case c5 => simp; omega
            intro v' w3 hown' hgrow _
            have HA3 := Lib.hid (t_grown _ HA.out hown (by decide) hgrow)
            have HW3 := Lib.hid hown'
            have HB3 : Hid (Below w.heap.size w w3) := Lib.hid ((HB.out.alloc (by omega) _).grown hgrow (by simp; omega) (fun j hj => ((hown.alloc (.cells #[.string (t.extract k K)] 9)).lt j hj).1))
            have hs3 := HB3.out.size
            have hal' := HA3.out
            clear hgrow hown' hown
            go_wp2_with (at_builtin; refine wpList_append_own _ rfl _ _ 35 rfl w.heap.size 3 j0 (.int .i64 0) 1 8 Tryz.underlying35 hj hy0 hy1 hy2 rfl (by decide) _ _ _ rfl (hal'.alloc _) ⟨w3.heap.size, 0, none⟩ 1 1 [.int .i64 (k : Int)] rfl rfl ?c1 ?c2 ?c3 ?c4 ?c5 ?_)
            case c1 =>
              intro j u hj
              match j, hj with
              | 0, hj => simp at hj; subst hj; simp [Addr.add]
            case c2 => intro u hu; simp at hu; subst hu; rfl
            case c3 => unfold maxLen; omega
            case c4 => omega
            case c5 => simp; omega
            intro v2 w4 hown2 hgrow2 _
            have HW4 := Lib.hid (t_grown _ HW3.out hal' (by decide) hgrow2)
            have HA4 := Lib.hid hown2
            have HB4 : Hid (Below w.heap.size w w4) := Lib.hid ((HB3.out.alloc (by omega) _).grown hgrow2 (by simp; omega) (fun j hj => ((hal'.alloc (.cells #[.int .i64 (k : Int)] 3)).lt j hj).1))
            have e1 : ws.length + 1 = (ws ++ [t.extract k K]).length := by simp
            have e2 : as_.length + 1 = (as_ ++ [k]).length := by simp
            have e3 : ss ws ++ [.string (t.extract k K)] = ss (ws ++ [t.extract k K]) := by simp [ss]
            have e4 : ni as_ ++ [.int .i64 (k : Int)] = ni (as_ ++ [k]) := by simp [ni]
            rw [e1, e3] at HW4
            rw [e2, e4] at HA4
            have b2 : t.size < K + g := by omega
            have b3 : (ws ++ [t.extract k K]).length ≤ K := by simp; omega
            have b4 : (as_ ++ [k]).length ≤ K := by simp; omega
            have b5 : t.size - K < t.size - k := by omega
            clear hgrow2 hown2 hal' e1 e2 e3 e4 HA3 HW3
            have HBS := Lib.hid (And.intro hK2 (And.intro b2 (And.intro b3 (And.intro b4 b5))))
            clear b2 b3 b4 b5 hfu hk hwl hal hK1 hK2
            go_wp2
            go_roundw
            case rel => exact ⟨K, g, _, _, HBS.out.1, by first | rfl | go_num, Lib.hid ⟨HBS.out.2.1, HI2.out⟩, HBS.out.2.2.1, HBS.out.2.2.2.1, HW4, HA4, HB4⟩
            case measure =>
              have := HBS.out.2.2.2.2
              simp [intOf]; omega
      · have hkn : k = t.size := by omega
        have HF : Hid (T = ⟨ws, as_, 0, 0⟩) := Lib.hid (by rw [HI.out.2]; exact HEN.out f k ws as_ (by rw [HSZ.out]; omega))
        obtain ⟨A1, c1, rfl, hR1⟩ := own_ends HW.out
        obtain ⟨A2, c2, rfl, hR2⟩ := own_ends HA.out
        have HR1 := Lib.hid hR1
        have HR2 := Lib.hid hR2
        clear hR1 hR2 HI HW HA
        subst hkn
        go_wp2
        (try simp only [Exit.inBlock, Exit.then])
        refine bodyPost_ret (results_tmp4 rfl _ _ _) rfl ?_
        rw [HF.out]
        exact ⟨A1, c1, A2, c2, rfl, HR1.out, HR2.out, HB.out⟩
end Go.Proofs.YthhkeobjjeldhaaGreatDoor
