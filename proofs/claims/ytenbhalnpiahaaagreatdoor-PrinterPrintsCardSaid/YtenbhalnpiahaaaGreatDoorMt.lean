/- Layer 5: Fits of the reference. -/
import Derived.Test.YtenbhalnpiahaaaGreatDoorJn
import Derived.Test.YtenbhalnpiahaaaGreatDoorMp
namespace Go.Proofs.Ws
open Go
def bitsOk (m : Nat) (l : Int) (k : Nat) : Bool := (List.range k).all (fun i => !decide (m / 2 ^ i % 2 = 1) || decide ((i : Int) < l))
theorem bitsOk_iff (m : Nat) (l : Int) (k : Nat) : bitsOk m l k = true ↔ ∀ i, i < k → m / 2 ^ i % 2 = 1 → (i : Int) < l := by
  unfold bitsOk
  rw [List.all_eq_true]
  constructor
  · intro h i hi hb
    have := h i (List.mem_range.2 hi)
    simp [hb] at this
    exact this
  · intro h i hi
    have := h i (List.mem_range.1 hi)
    by_cases hb : m / 2 ^ i % 2 = 1
    · simp [hb, this hb]
    · simp [hb]
theorem bits_top : ∀ n : Fin 256, n.val ≠ 0 → 0 < Lib.bitLen n.val ∧ n.val / 2 ^ (Lib.bitLen n.val - 1) % 2 = 1 ∧ 2 ^ (Lib.bitLen n.val - 1) ≤ n.val ∧ ∀ i : Fin 8, n.val / 2 ^ i.val % 2 = 1 → i.val < Lib.bitLen n.val := by decide +kernel
theorem belowM_bits (m K : Nat) (l : Int) (hK : K ≤ 8) (hm : m < 2 ^ K) : belowM m l = bitsOk m l K := by
  have h256 : m < 256 := Nat.lt_of_lt_of_le hm (Nat.pow_le_pow_right (n := 2) (by decide) hK)
  rw [Bool.eq_iff_iff, bitsOk_iff]
  unfold belowM
  rw [Bool.or_eq_true, decide_eq_true_eq, decide_eq_true_eq]
  by_cases h0 : m = 0
  · subst h0
    simp
  · obtain ⟨h1, h2, h3, h4⟩ := bits_top ⟨m, h256⟩ h0
    dsimp only at h1 h2 h3 h4
    constructor
    · rintro (h | h) i hi hb
      · exact absurd h h0
      · have := h4 ⟨i, by omega⟩ hb
        dsimp only at this
        omega
    · intro h
      refine .inr ?_
      have hlt : Lib.bitLen m - 1 < K := by
        refine Nat.lt_of_not_le (fun hle => ?_)
        have := Nat.pow_le_pow_right (n := 2) (by decide) hle
        omega
      have := h _ hlt h2
      omega
theorem bitsOk_succ {m : Nat} {l : Int} {k : Nat} (h : bitsOk m l k = true) (hk : m / 2 ^ k % 2 = 1 → (k : Int) < l) : bitsOk m l (k + 1) = true := by
  rw [bitsOk_iff] at h ⊢
  intro i hi hb
  by_cases e : i = k
  · subst e; exact hk hb
  · exact h i (by omega) hb
theorem bitsOk_bad {m : Nat} {l : Int} {k K : Nat} (hk : k < K) (h1 : m / 2 ^ k % 2 = 1) (h2 : ¬ (k : Int) < l) : bitsOk m l K = false := by
  rw [← Bool.not_eq_true, bitsOk_iff]
  exact fun h => h2 (h k hk h1)
theorem maskL_le (g : Nd → Nat) (e : Nat) (l : List Nd) (h : ∀ n ∈ l, g n < 2 ^ e) : maskL g l < 2 ^ e := by
  have : ∀ (l : List Nd) (a : Nat), a < 2 ^ e → (∀ n ∈ l, g n < 2 ^ e) → l.foldl (fun m n => m ||| g n) a < 2 ^ e := by
    intro l
    induction l with
    | nil => intro a h _; exact h
    | cons n l ih =>
      intro a h hl
      exact ih _ (Nat.or_lt_two_pow h (hl n (by simp))) (fun m hm => hl m (by simp [hm]))
  exact this l 0 (Nat.two_pow_pos e) h
end Go.Proofs.Ws
namespace Go.Proofs.YtenbhalnpiahaaaGreatDoor
open Go.RowKit Go.Proofs.Ws Go.Maps
theorem agentM_16 (f : List Nd) : maskL agentD (compF f) < 2 ^ 4 := maskL_le _ 4 _ (fun n hn => by
  obtain ⟨_, h2, h3, h4⟩ := fld_i (compF_fld f n hn)
  unfold agentD
  split
  · rename_i ha
    have := h2 ha
    exact Nat.pow_lt_pow_right (by decide) (show n.i.toNat < 4 by omega)
  · cases hg : hasGroup n.op
    · have := h4 hg; omega
    · have := h3 hg; omega)
theorem factM_256 (f : List Nd) : maskL factD (compF f) < 2 ^ 8 := maskL_le _ 8 _ (fun n hn => by
  unfold factD
  split
  · rename_i h3
    have := (fld_i (compF_fld f n hn)).1 h3
    exact Nat.pow_lt_pow_right (by decide) (show n.i.toNat < 8 by omega)
  · decide)
set_option maxRecDepth 100000 in
set_option maxHeartbeats 4000000 in
theorem rFits_any (f : List Nd) (a b : Int) (A : Option Addr) (n c : Nat) (w : World) (hR : Reads w w.heap.size 6 A n (nds f)) (hm : n ≤ maxLen) :
    Calls Tryz.prog 67 #[.slice A n c, .int .i64 a, .int .i64 b] w fun e w' => e = .returned (.bool (fitsF f a b)) ∧ Below w.heap.size w w' := by
  have HV := Lib.hid (rCheck_any f A n c w hR hm)
  have HA : Hid (∀ W, Below w.heap.size w W → Calls Tryz.prog 99 #[.slice A n c] W fun e w' => e = .returned (.int .i64 (maskL agentD (compF f) : Int)) ∧ Below W.heap.size W w') := Lib.hid (fun W h => rAgents_any f A n c W ((hR.below h).more h.size) hm)
  have HF : Hid (∀ W, Below w.heap.size w W → Calls Tryz.prog 100 #[.slice A n c] W fun e w' => e = .returned (.int .i64 (maskL factD (compF f) : Int)) ∧ Below W.heap.size W w') := Lib.hid (fun W h => rFacts_any f A n c W ((hR.below h).more h.size) hm)
  have HE : Hid (fitsF f a b = (decide (fErr f = 0) && (bitsOk (maskL agentD (compF f)) a 4 && bitsOk (maskL factD (compF f)) b 8))) := Lib.hid (by
    unfold fitsF
    rw [belowM_bits _ 4 a (by decide) (agentM_16 f), belowM_bits _ 8 b (by decide) (factM_256 f)])
  have hla : maskL agentD (compF f) < 16 := agentM_16 f
  have hlf : maskL factD (compF f) < 256 := factM_256 f
  generalize fitsF f a b = r at *
  generalize maskL agentD (compF f) = ma at *
  generalize maskL factD (compF f) = mf at *
  clear hR
  by_cases hz : fErr f = 0
  · rw [hz] at HV
    have HE1 : Hid (r = (bitsOk ma a 4 && bitsOk mf b 8)) := Lib.hid (by rw [HE.out, hz]; rfl)
    clear HE hz
    go_enter Tryz.func67, Tryz.ntmps67
    go_wp2_with fail
    refine (HV.out).mono ?_
    rintro e w1 ⟨rfl, hb1⟩
    have HB1 := Lib.hid hb1
    clear hb1
    go_wp2
    go_loopw [7] (fun i wr => ∃ k : Nat, k ≤ 4 ∧ i = .int .i64 k ∧ Hid (bitsOk ma a k = true) ∧ Hid (Below w.heap.size w wr)) (fun i _ => 4 - (intOf i).toNat)
    case atStart => exact ⟨0, Nat.zero_le _, rfl, Lib.hid rfl, HB1⟩
    case round =>
      obtain ⟨k, hk, rfl, HK, HB⟩ := hrel
      by_cases hlt : k < 4
      · have HAw := Lib.hid (HA.out _ HB.out)
        have hkc : k = 0 ∨ k = 1 ∨ k = 2 ∨ k = 3 := by omega
        rcases hkc with rfl | rfl | rfl | rfl
        · by_cases hbit : ma % 2 = 1
          · have hbw : ma / 2 ^ 0 % 2 = 1 := by simpa using hbit
            by_cases hka : (0 : Int) < a
            · have HK2 := Lib.hid (bitsOk_succ HK.out (fun _ => hka))
              have dk : decide (a ≤ (0 : Int)) = false := decide_eq_false (by omega)
              clear hka hbw
              go_wp2_with fail
              refine (HAw.out).mono ?_
              rintro e w2 ⟨rfl, hb2⟩
              have HB2 := Lib.hid (HB.out.trans (hb2.mono HB.out.size))
              clear hb2
              go_wp2
              go_roundw
              case rel => exact ⟨1, by omega, by go_num, HK2, HB2⟩
              case measure => simp [intOf]
            · have HBD : Hid (r = false) := Lib.hid (by rw [HE1.out, bitsOk_bad (k := 0) (by decide) hbw hka]; rfl)
              have dk : decide (a ≤ (0 : Int)) = true := decide_eq_true (by omega)
              clear hka hbw
              go_wp2_with fail
              refine (HAw.out).mono ?_
              rintro e w2 ⟨rfl, hb2⟩
              have HB2 := Lib.hid (HB.out.trans (hb2.mono HB.out.size))
              clear hb2
              go_wp2
              go_ret
              exact ⟨ret_bool HBD.out.symm, HB2.out⟩
          · have hbw : ¬ ma / 2 ^ 0 % 2 = 1 := by simpa using hbit
            have HK2 := Lib.hid (bitsOk_succ HK.out (fun h => absurd h hbw))
            clear hbw
            go_wp2_with fail
            refine (HAw.out).mono ?_
            rintro e w2 ⟨rfl, hb2⟩
            have HB2 := Lib.hid (HB.out.trans (hb2.mono HB.out.size))
            clear hb2
            go_wp2
            go_roundw
            case rel => exact ⟨1, by omega, by go_num, HK2, HB2⟩
            case measure => simp [intOf]
        · by_cases hbit : ma / 2 % 2 = 1
          · have hbw : ma / 2 ^ 1 % 2 = 1 := by exact hbit
            by_cases hka : (1 : Int) < a
            · have HK2 := Lib.hid (bitsOk_succ HK.out (fun _ => hka))
              have dk : decide (a ≤ (1 : Int)) = false := decide_eq_false (by omega)
              clear hka hbw
              go_wp2_with fail
              refine (HAw.out).mono ?_
              rintro e w2 ⟨rfl, hb2⟩
              have HB2 := Lib.hid (HB.out.trans (hb2.mono HB.out.size))
              clear hb2
              go_wp2
              go_roundw
              case rel => exact ⟨2, by omega, by go_num, HK2, HB2⟩
              case measure => simp [intOf]
            · have HBD : Hid (r = false) := Lib.hid (by rw [HE1.out, bitsOk_bad (k := 1) (by decide) hbw hka]; rfl)
              have dk : decide (a ≤ (1 : Int)) = true := decide_eq_true (by omega)
              clear hka hbw
              go_wp2_with fail
              refine (HAw.out).mono ?_
              rintro e w2 ⟨rfl, hb2⟩
              have HB2 := Lib.hid (HB.out.trans (hb2.mono HB.out.size))
              clear hb2
              go_wp2
              go_ret
              exact ⟨ret_bool HBD.out.symm, HB2.out⟩
          · have hbw : ¬ ma / 2 ^ 1 % 2 = 1 := by exact hbit
            have HK2 := Lib.hid (bitsOk_succ HK.out (fun h => absurd h hbw))
            clear hbw
            go_wp2_with fail
            refine (HAw.out).mono ?_
            rintro e w2 ⟨rfl, hb2⟩
            have HB2 := Lib.hid (HB.out.trans (hb2.mono HB.out.size))
            clear hb2
            go_wp2
            go_roundw
            case rel => exact ⟨2, by omega, by go_num, HK2, HB2⟩
            case measure => simp [intOf]
        · by_cases hbit : ma / 4 % 2 = 1
          · have hbw : ma / 2 ^ 2 % 2 = 1 := by exact hbit
            by_cases hka : (2 : Int) < a
            · have HK2 := Lib.hid (bitsOk_succ HK.out (fun _ => hka))
              have dk : decide (a ≤ (2 : Int)) = false := decide_eq_false (by omega)
              clear hka hbw
              go_wp2_with fail
              refine (HAw.out).mono ?_
              rintro e w2 ⟨rfl, hb2⟩
              have HB2 := Lib.hid (HB.out.trans (hb2.mono HB.out.size))
              clear hb2
              go_wp2
              go_roundw
              case rel => exact ⟨3, by omega, by go_num, HK2, HB2⟩
              case measure => simp [intOf]
            · have HBD : Hid (r = false) := Lib.hid (by rw [HE1.out, bitsOk_bad (k := 2) (by decide) hbw hka]; rfl)
              have dk : decide (a ≤ (2 : Int)) = true := decide_eq_true (by omega)
              clear hka hbw
              go_wp2_with fail
              refine (HAw.out).mono ?_
              rintro e w2 ⟨rfl, hb2⟩
              have HB2 := Lib.hid (HB.out.trans (hb2.mono HB.out.size))
              clear hb2
              go_wp2
              go_ret
              exact ⟨ret_bool HBD.out.symm, HB2.out⟩
          · have hbw : ¬ ma / 2 ^ 2 % 2 = 1 := by exact hbit
            have HK2 := Lib.hid (bitsOk_succ HK.out (fun h => absurd h hbw))
            clear hbw
            go_wp2_with fail
            refine (HAw.out).mono ?_
            rintro e w2 ⟨rfl, hb2⟩
            have HB2 := Lib.hid (HB.out.trans (hb2.mono HB.out.size))
            clear hb2
            go_wp2
            go_roundw
            case rel => exact ⟨3, by omega, by go_num, HK2, HB2⟩
            case measure => simp [intOf]
        · by_cases hbit : ma / 8 % 2 = 1
          · have hbw : ma / 2 ^ 3 % 2 = 1 := by exact hbit
            by_cases hka : (3 : Int) < a
            · have HK2 := Lib.hid (bitsOk_succ HK.out (fun _ => hka))
              have dk : decide (a ≤ (3 : Int)) = false := decide_eq_false (by omega)
              clear hka hbw
              go_wp2_with fail
              refine (HAw.out).mono ?_
              rintro e w2 ⟨rfl, hb2⟩
              have HB2 := Lib.hid (HB.out.trans (hb2.mono HB.out.size))
              clear hb2
              go_wp2
              go_roundw
              case rel => exact ⟨4, by omega, by go_num, HK2, HB2⟩
              case measure => simp [intOf]
            · have HBD : Hid (r = false) := Lib.hid (by rw [HE1.out, bitsOk_bad (k := 3) (by decide) hbw hka]; rfl)
              have dk : decide (a ≤ (3 : Int)) = true := decide_eq_true (by omega)
              clear hka hbw
              go_wp2_with fail
              refine (HAw.out).mono ?_
              rintro e w2 ⟨rfl, hb2⟩
              have HB2 := Lib.hid (HB.out.trans (hb2.mono HB.out.size))
              clear hb2
              go_wp2
              go_ret
              exact ⟨ret_bool HBD.out.symm, HB2.out⟩
          · have hbw : ¬ ma / 2 ^ 3 % 2 = 1 := by exact hbit
            have HK2 := Lib.hid (bitsOk_succ HK.out (fun h => absurd h hbw))
            clear hbw
            go_wp2_with fail
            refine (HAw.out).mono ?_
            rintro e w2 ⟨rfl, hb2⟩
            have HB2 := Lib.hid (HB.out.trans (hb2.mono HB.out.size))
            clear hb2
            go_wp2
            go_roundw
            case rel => exact ⟨4, by omega, by go_num, HK2, HB2⟩
            case measure => simp [intOf]
      · have hk4 : k = 4 := by omega
        have HKA := Lib.hid HK.out
        rw [hk4] at HKA
        have HE2 : Hid (r = bitsOk mf b 8) := Lib.hid (by rw [HE1.out, HKA.out]; rfl)
        have HB4 := Lib.hid HB.out
        clear HB HK hk4 HKA HE1
        go_wp2
        clear hlt hk
        go_loopw [8] (fun i wr => ∃ k : Nat, k ≤ 8 ∧ i = .int .i64 k ∧ Hid (bitsOk mf b k = true) ∧ Hid (Below w.heap.size w wr)) (fun i _ => 8 - (intOf i).toNat)
        case atStart => exact ⟨0, Nat.zero_le _, rfl, Lib.hid rfl, HB4⟩
        case round =>
          obtain ⟨k, hk, rfl, HK, HB⟩ := hrel
          by_cases hlt : k < 8
          · have HAw := Lib.hid (HF.out _ HB.out)
            have hkc : k = 0 ∨ k = 1 ∨ k = 2 ∨ k = 3 ∨ k = 4 ∨ k = 5 ∨ k = 6 ∨ k = 7 := by omega
            rcases hkc with rfl | rfl | rfl | rfl | rfl | rfl | rfl | rfl
            · by_cases hbit : mf % 2 = 1
              · have hbw : mf / 2 ^ 0 % 2 = 1 := by simpa using hbit
                by_cases hka : (0 : Int) < b
                · have HK2 := Lib.hid (bitsOk_succ HK.out (fun _ => hka))
                  have dk : decide (b ≤ (0 : Int)) = false := decide_eq_false (by omega)
                  clear hka hbw
                  go_wp2_with fail
                  refine (HAw.out).mono ?_
                  rintro e w2 ⟨rfl, hb2⟩
                  have HB2 := Lib.hid (HB.out.trans (hb2.mono HB.out.size))
                  clear hb2
                  go_wp2
                  go_roundw
                  case rel => exact ⟨1, by omega, by go_num, HK2, HB2⟩
                  case measure => simp [intOf]
                · have HBD : Hid (r = false) := Lib.hid (by rw [HE2.out, bitsOk_bad (k := 0) (by decide) hbw hka])
                  have dk : decide (b ≤ (0 : Int)) = true := decide_eq_true (by omega)
                  clear hka hbw
                  go_wp2_with fail
                  refine (HAw.out).mono ?_
                  rintro e w2 ⟨rfl, hb2⟩
                  have HB2 := Lib.hid (HB.out.trans (hb2.mono HB.out.size))
                  clear hb2
                  go_wp2
                  go_ret
                  exact ⟨ret_bool HBD.out.symm, HB2.out⟩
              · have hbw : ¬ mf / 2 ^ 0 % 2 = 1 := by simpa using hbit
                have HK2 := Lib.hid (bitsOk_succ HK.out (fun h => absurd h hbw))
                clear hbw
                go_wp2_with fail
                refine (HAw.out).mono ?_
                rintro e w2 ⟨rfl, hb2⟩
                have HB2 := Lib.hid (HB.out.trans (hb2.mono HB.out.size))
                clear hb2
                go_wp2
                go_roundw
                case rel => exact ⟨1, by omega, by go_num, HK2, HB2⟩
                case measure => simp [intOf]
            · by_cases hbit : mf / 2 % 2 = 1
              · have hbw : mf / 2 ^ 1 % 2 = 1 := by exact hbit
                by_cases hka : (1 : Int) < b
                · have HK2 := Lib.hid (bitsOk_succ HK.out (fun _ => hka))
                  have dk : decide (b ≤ (1 : Int)) = false := decide_eq_false (by omega)
                  clear hka hbw
                  go_wp2_with fail
                  refine (HAw.out).mono ?_
                  rintro e w2 ⟨rfl, hb2⟩
                  have HB2 := Lib.hid (HB.out.trans (hb2.mono HB.out.size))
                  clear hb2
                  go_wp2
                  go_roundw
                  case rel => exact ⟨2, by omega, by go_num, HK2, HB2⟩
                  case measure => simp [intOf]
                · have HBD : Hid (r = false) := Lib.hid (by rw [HE2.out, bitsOk_bad (k := 1) (by decide) hbw hka])
                  have dk : decide (b ≤ (1 : Int)) = true := decide_eq_true (by omega)
                  clear hka hbw
                  go_wp2_with fail
                  refine (HAw.out).mono ?_
                  rintro e w2 ⟨rfl, hb2⟩
                  have HB2 := Lib.hid (HB.out.trans (hb2.mono HB.out.size))
                  clear hb2
                  go_wp2
                  go_ret
                  exact ⟨ret_bool HBD.out.symm, HB2.out⟩
              · have hbw : ¬ mf / 2 ^ 1 % 2 = 1 := by exact hbit
                have HK2 := Lib.hid (bitsOk_succ HK.out (fun h => absurd h hbw))
                clear hbw
                go_wp2_with fail
                refine (HAw.out).mono ?_
                rintro e w2 ⟨rfl, hb2⟩
                have HB2 := Lib.hid (HB.out.trans (hb2.mono HB.out.size))
                clear hb2
                go_wp2
                go_roundw
                case rel => exact ⟨2, by omega, by go_num, HK2, HB2⟩
                case measure => simp [intOf]
            · by_cases hbit : mf / 4 % 2 = 1
              · have hbw : mf / 2 ^ 2 % 2 = 1 := by exact hbit
                by_cases hka : (2 : Int) < b
                · have HK2 := Lib.hid (bitsOk_succ HK.out (fun _ => hka))
                  have dk : decide (b ≤ (2 : Int)) = false := decide_eq_false (by omega)
                  clear hka hbw
                  go_wp2_with fail
                  refine (HAw.out).mono ?_
                  rintro e w2 ⟨rfl, hb2⟩
                  have HB2 := Lib.hid (HB.out.trans (hb2.mono HB.out.size))
                  clear hb2
                  go_wp2
                  go_roundw
                  case rel => exact ⟨3, by omega, by go_num, HK2, HB2⟩
                  case measure => simp [intOf]
                · have HBD : Hid (r = false) := Lib.hid (by rw [HE2.out, bitsOk_bad (k := 2) (by decide) hbw hka])
                  have dk : decide (b ≤ (2 : Int)) = true := decide_eq_true (by omega)
                  clear hka hbw
                  go_wp2_with fail
                  refine (HAw.out).mono ?_
                  rintro e w2 ⟨rfl, hb2⟩
                  have HB2 := Lib.hid (HB.out.trans (hb2.mono HB.out.size))
                  clear hb2
                  go_wp2
                  go_ret
                  exact ⟨ret_bool HBD.out.symm, HB2.out⟩
              · have hbw : ¬ mf / 2 ^ 2 % 2 = 1 := by exact hbit
                have HK2 := Lib.hid (bitsOk_succ HK.out (fun h => absurd h hbw))
                clear hbw
                go_wp2_with fail
                refine (HAw.out).mono ?_
                rintro e w2 ⟨rfl, hb2⟩
                have HB2 := Lib.hid (HB.out.trans (hb2.mono HB.out.size))
                clear hb2
                go_wp2
                go_roundw
                case rel => exact ⟨3, by omega, by go_num, HK2, HB2⟩
                case measure => simp [intOf]
            · by_cases hbit : mf / 8 % 2 = 1
              · have hbw : mf / 2 ^ 3 % 2 = 1 := by exact hbit
                by_cases hka : (3 : Int) < b
                · have HK2 := Lib.hid (bitsOk_succ HK.out (fun _ => hka))
                  have dk : decide (b ≤ (3 : Int)) = false := decide_eq_false (by omega)
                  clear hka hbw
                  go_wp2_with fail
                  refine (HAw.out).mono ?_
                  rintro e w2 ⟨rfl, hb2⟩
                  have HB2 := Lib.hid (HB.out.trans (hb2.mono HB.out.size))
                  clear hb2
                  go_wp2
                  go_roundw
                  case rel => exact ⟨4, by omega, by go_num, HK2, HB2⟩
                  case measure => simp [intOf]
                · have HBD : Hid (r = false) := Lib.hid (by rw [HE2.out, bitsOk_bad (k := 3) (by decide) hbw hka])
                  have dk : decide (b ≤ (3 : Int)) = true := decide_eq_true (by omega)
                  clear hka hbw
                  go_wp2_with fail
                  refine (HAw.out).mono ?_
                  rintro e w2 ⟨rfl, hb2⟩
                  have HB2 := Lib.hid (HB.out.trans (hb2.mono HB.out.size))
                  clear hb2
                  go_wp2
                  go_ret
                  exact ⟨ret_bool HBD.out.symm, HB2.out⟩
              · have hbw : ¬ mf / 2 ^ 3 % 2 = 1 := by exact hbit
                have HK2 := Lib.hid (bitsOk_succ HK.out (fun h => absurd h hbw))
                clear hbw
                go_wp2_with fail
                refine (HAw.out).mono ?_
                rintro e w2 ⟨rfl, hb2⟩
                have HB2 := Lib.hid (HB.out.trans (hb2.mono HB.out.size))
                clear hb2
                go_wp2
                go_roundw
                case rel => exact ⟨4, by omega, by go_num, HK2, HB2⟩
                case measure => simp [intOf]
            · by_cases hbit : mf / 16 % 2 = 1
              · have hbw : mf / 2 ^ 4 % 2 = 1 := by exact hbit
                by_cases hka : (4 : Int) < b
                · have HK2 := Lib.hid (bitsOk_succ HK.out (fun _ => hka))
                  have dk : decide (b ≤ (4 : Int)) = false := decide_eq_false (by omega)
                  clear hka hbw
                  go_wp2_with fail
                  refine (HAw.out).mono ?_
                  rintro e w2 ⟨rfl, hb2⟩
                  have HB2 := Lib.hid (HB.out.trans (hb2.mono HB.out.size))
                  clear hb2
                  go_wp2
                  go_roundw
                  case rel => exact ⟨5, by omega, by go_num, HK2, HB2⟩
                  case measure => simp [intOf]
                · have HBD : Hid (r = false) := Lib.hid (by rw [HE2.out, bitsOk_bad (k := 4) (by decide) hbw hka])
                  have dk : decide (b ≤ (4 : Int)) = true := decide_eq_true (by omega)
                  clear hka hbw
                  go_wp2_with fail
                  refine (HAw.out).mono ?_
                  rintro e w2 ⟨rfl, hb2⟩
                  have HB2 := Lib.hid (HB.out.trans (hb2.mono HB.out.size))
                  clear hb2
                  go_wp2
                  go_ret
                  exact ⟨ret_bool HBD.out.symm, HB2.out⟩
              · have hbw : ¬ mf / 2 ^ 4 % 2 = 1 := by exact hbit
                have HK2 := Lib.hid (bitsOk_succ HK.out (fun h => absurd h hbw))
                clear hbw
                go_wp2_with fail
                refine (HAw.out).mono ?_
                rintro e w2 ⟨rfl, hb2⟩
                have HB2 := Lib.hid (HB.out.trans (hb2.mono HB.out.size))
                clear hb2
                go_wp2
                go_roundw
                case rel => exact ⟨5, by omega, by go_num, HK2, HB2⟩
                case measure => simp [intOf]
            · by_cases hbit : mf / 32 % 2 = 1
              · have hbw : mf / 2 ^ 5 % 2 = 1 := by exact hbit
                by_cases hka : (5 : Int) < b
                · have HK2 := Lib.hid (bitsOk_succ HK.out (fun _ => hka))
                  have dk : decide (b ≤ (5 : Int)) = false := decide_eq_false (by omega)
                  clear hka hbw
                  go_wp2_with fail
                  refine (HAw.out).mono ?_
                  rintro e w2 ⟨rfl, hb2⟩
                  have HB2 := Lib.hid (HB.out.trans (hb2.mono HB.out.size))
                  clear hb2
                  go_wp2
                  go_roundw
                  case rel => exact ⟨6, by omega, by go_num, HK2, HB2⟩
                  case measure => simp [intOf]
                · have HBD : Hid (r = false) := Lib.hid (by rw [HE2.out, bitsOk_bad (k := 5) (by decide) hbw hka])
                  have dk : decide (b ≤ (5 : Int)) = true := decide_eq_true (by omega)
                  clear hka hbw
                  go_wp2_with fail
                  refine (HAw.out).mono ?_
                  rintro e w2 ⟨rfl, hb2⟩
                  have HB2 := Lib.hid (HB.out.trans (hb2.mono HB.out.size))
                  clear hb2
                  go_wp2
                  go_ret
                  exact ⟨ret_bool HBD.out.symm, HB2.out⟩
              · have hbw : ¬ mf / 2 ^ 5 % 2 = 1 := by exact hbit
                have HK2 := Lib.hid (bitsOk_succ HK.out (fun h => absurd h hbw))
                clear hbw
                go_wp2_with fail
                refine (HAw.out).mono ?_
                rintro e w2 ⟨rfl, hb2⟩
                have HB2 := Lib.hid (HB.out.trans (hb2.mono HB.out.size))
                clear hb2
                go_wp2
                go_roundw
                case rel => exact ⟨6, by omega, by go_num, HK2, HB2⟩
                case measure => simp [intOf]
            · by_cases hbit : mf / 64 % 2 = 1
              · have hbw : mf / 2 ^ 6 % 2 = 1 := by exact hbit
                by_cases hka : (6 : Int) < b
                · have HK2 := Lib.hid (bitsOk_succ HK.out (fun _ => hka))
                  have dk : decide (b ≤ (6 : Int)) = false := decide_eq_false (by omega)
                  clear hka hbw
                  go_wp2_with fail
                  refine (HAw.out).mono ?_
                  rintro e w2 ⟨rfl, hb2⟩
                  have HB2 := Lib.hid (HB.out.trans (hb2.mono HB.out.size))
                  clear hb2
                  go_wp2
                  go_roundw
                  case rel => exact ⟨7, by omega, by go_num, HK2, HB2⟩
                  case measure => simp [intOf]
                · have HBD : Hid (r = false) := Lib.hid (by rw [HE2.out, bitsOk_bad (k := 6) (by decide) hbw hka])
                  have dk : decide (b ≤ (6 : Int)) = true := decide_eq_true (by omega)
                  clear hka hbw
                  go_wp2_with fail
                  refine (HAw.out).mono ?_
                  rintro e w2 ⟨rfl, hb2⟩
                  have HB2 := Lib.hid (HB.out.trans (hb2.mono HB.out.size))
                  clear hb2
                  go_wp2
                  go_ret
                  exact ⟨ret_bool HBD.out.symm, HB2.out⟩
              · have hbw : ¬ mf / 2 ^ 6 % 2 = 1 := by exact hbit
                have HK2 := Lib.hid (bitsOk_succ HK.out (fun h => absurd h hbw))
                clear hbw
                go_wp2_with fail
                refine (HAw.out).mono ?_
                rintro e w2 ⟨rfl, hb2⟩
                have HB2 := Lib.hid (HB.out.trans (hb2.mono HB.out.size))
                clear hb2
                go_wp2
                go_roundw
                case rel => exact ⟨7, by omega, by go_num, HK2, HB2⟩
                case measure => simp [intOf]
            · by_cases hbit : mf / 128 % 2 = 1
              · have hbw : mf / 2 ^ 7 % 2 = 1 := by exact hbit
                by_cases hka : (7 : Int) < b
                · have HK2 := Lib.hid (bitsOk_succ HK.out (fun _ => hka))
                  have dk : decide (b ≤ (7 : Int)) = false := decide_eq_false (by omega)
                  clear hka hbw
                  go_wp2_with fail
                  refine (HAw.out).mono ?_
                  rintro e w2 ⟨rfl, hb2⟩
                  have HB2 := Lib.hid (HB.out.trans (hb2.mono HB.out.size))
                  clear hb2
                  go_wp2
                  go_roundw
                  case rel => exact ⟨8, by omega, by go_num, HK2, HB2⟩
                  case measure => simp [intOf]
                · have HBD : Hid (r = false) := Lib.hid (by rw [HE2.out, bitsOk_bad (k := 7) (by decide) hbw hka])
                  have dk : decide (b ≤ (7 : Int)) = true := decide_eq_true (by omega)
                  clear hka hbw
                  go_wp2_with fail
                  refine (HAw.out).mono ?_
                  rintro e w2 ⟨rfl, hb2⟩
                  have HB2 := Lib.hid (HB.out.trans (hb2.mono HB.out.size))
                  clear hb2
                  go_wp2
                  go_ret
                  exact ⟨ret_bool HBD.out.symm, HB2.out⟩
              · have hbw : ¬ mf / 2 ^ 7 % 2 = 1 := by exact hbit
                have HK2 := Lib.hid (bitsOk_succ HK.out (fun h => absurd h hbw))
                clear hbw
                go_wp2_with fail
                refine (HAw.out).mono ?_
                rintro e w2 ⟨rfl, hb2⟩
                have HB2 := Lib.hid (HB.out.trans (hb2.mono HB.out.size))
                clear hb2
                go_wp2
                go_roundw
                case rel => exact ⟨8, by omega, by go_num, HK2, HB2⟩
                case measure => simp [intOf]
          · have hk8 : k = 8 := by omega
            have HKB := Lib.hid HK.out
            rw [hk8] at HKB
            have HR1 : Hid (r = true) := Lib.hid (by rw [HE2.out, HKB.out])
            clear hk8 HKB
            go_wp2
            go_ret
            exact ⟨ret_bool HR1.out.symm, HB.out⟩
  · have HE1 : Hid (r = false) := Lib.hid (by rw [HE.out, decide_eq_false hz]; rfl)
    have hz1 : (fErr f != 0) = true := by simpa using hz
    have hr := HE1.out
    subst hr
    generalize fErr f = z at *
    clear hz HE HE1
    go_enter Tryz.func67, Tryz.ntmps67
    go_wp2_with fail
    refine (HV.out).mono ?_
    rintro e w1 ⟨rfl, hb1⟩
    have HB1 := Lib.hid hb1
    clear hb1
    go_wp2
    go_ret
    exact ⟨rfl, HB1.out⟩
end Go.Proofs.YtenbhalnpiahaaaGreatDoor
