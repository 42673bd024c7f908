/- Layer 3: the partition of a relation, by the reference. -/
import Derived.Test.YtichhbnpdhfimaaDoorVd
namespace Go.Proofs.YtichhbnpdhfimaaDoor
open Go.RowKit Go.Proofs.Ws
theorem bitu (x j : Nat) (hx : x < 18446744073709551616) : (bits BinOp.and IntKind.u64 (((x / 2 ^ j : Nat)) : Int) 1 == 1) = x.testBit j := by
  have h1 : x / 2 ^ j < 18446744073709551616 := Nat.lt_of_le_of_lt (Nat.div_le_self _ _) hx
  have e := u64_and_nat (x / 2 ^ j) 1 h1 (by decide)
  rw [show ((1 : Nat) : Int) = 1 from rfl] at e
  rw [e, Nat.and_one_is_mod]
  have e2 : x.testBit j = decide (x / 2 ^ j % 2 = 1) := Nat.testBit_eq_decide_div_mod_eq
  rw [e2]
  rcases Nat.mod_two_eq_zero_or_one (x / 2 ^ j) with h | h <;> rw [h] <;> rfl
theorem shru (x j : Nat) : ((x : Int) / 2 ^ j) = ((x / 2 ^ j : Nat) : Int) := by simp
set_option maxRecDepth 100000 in
set_option maxHeartbeats 6000000 in
theorem refOf_any (r : List Nat) (A : Option Addr) (n c : Nat) (w : World) (hR : Reads w w.heap.size 1 A n (us r)) (hW : Words r) (hm : n ≤ maxLen) :
    Calls Tryd.prog 14 #[.slice A n c] w (GO (ofV r).1 (ofV r).2 w) := by
  have hrl := hR.word_len
  unfold maxLen at hm
  by_cases h64 : n ≤ 64
  · have HR := Lib.hid hR
    have HRL := Lib.hid hrl
    have HWD := Lib.hid hW
    obtain ⟨i0, hi, hz0, hz1, hz2⟩ := info_parts Tryd.infoI
    clear hR hrl hW
    have hdm : decide ((64 : Int) < (n : Int)) = false := by simp; omega
    go_enter Tryd.func14, Tryd.ntmps14
    go_wp2
    clear hdm
    go_loopw [16] (fun i wr => ∃ k : Nat, k ≤ n ∧ i = .int .i64 k ∧ Hid (∀ j, j < k → Lib.bitLen (r.getD j 0) ≤ n) ∧ w = wr) (fun i _ => n - (intOf i).toNat)
    case atStart => exact ⟨0, Nat.zero_le _, rfl, Lib.hid (fun j hj => absurd hj (by omega)), rfl⟩
    case round =>
      obtain ⟨k, hk, rfl, HI, rfl⟩ := hrel
      by_cases hlt : k < n
      · obtain ⟨ad, rfl, _, hc⟩ := HR.out.word_k hlt
        have hxw : r.getD k 0 < 18446744073709551616 := words_getD HWD.out k
        have hbg := bitLen_gt hxw h64
        have HF := Lib.hid (of_form (r := r) (by rw [HRL.out]; exact h64) (k := k) (by rw [HRL.out]; exact hlt))
        rw [HRL.out] at HF
        have HN : Hid (Lib.bitLen (r.getD k 0) ≤ n → ∀ j, j < k + 1 → Lib.bitLen (r.getD j 0) ≤ n) := Lib.hid (fun h j hj => by
          by_cases e : j = k
          · subst e; exact h
          · exact HI.out j (by omega))
        have hsh := shru (r.getD k 0) n
        generalize r.getD k 0 = x at *
        by_cases hn : n < 64
        · have hd1 : decide ((n : Int) < 64) = true := decide_eq_true (by omega)
          by_cases hz : x / 2 ^ n = 0
          · have hle : Lib.bitLen x ≤ n := by
              rcases Nat.lt_or_ge n (Lib.bitLen x) with h | h
              · have := hbg.1 h
                have := Nat.div_pos this (Nat.two_pow_pos n)
                omega
              · exact h
            have HN2 := Lib.hid (HN.out hle)
            rw [hz] at hsh
            clear HN HF HI hbg hz hle hn
            go_wp2
            go_roundw
            case rel => exact ⟨k + 1, by omega, by go_num, HN2, by first | rfl | trivial⟩
            case measure => simp [intOf]; omega
          · have hgt : n < Lib.bitLen x := hbg.2 (by
              rcases Nat.lt_or_ge x (2 ^ n) with h | h
              · exact absurd (Nat.div_eq_of_lt h) hz
              · exact h)
            have HE := Lib.hid (HF.out hgt)
            have hne : ((((x / 2 ^ n : Nat)) : Int) != 0) = true := by rw [bne_iff_ne]; omega
            generalize x / 2 ^ n = y at *
            clear HN HF HI hbg hz hgt hn
            go_wp2
            go_ret2
            exact GO.of HE.out GO_none
        · have hd1 : decide ((n : Int) < 64) = false := decide_eq_false (by omega)
          have hle : Lib.bitLen x ≤ n := by
            have := bitLenAux_le 64 x
            have e : Lib.bitLen x = Lib.bitLenAux 64 x := rfl
            omega
          have HN2 := Lib.hid (HN.out hle)
          clear HN HF HI hbg hle hn hsh
          go_wp2
          go_roundw
          case rel => exact ⟨k + 1, by omega, by go_num, HN2, by first | rfl | trivial⟩
          case measure => simp [intOf]; omega
      · have hkn : n = k := by omega
        subst hkn
        have HFB : Hid (∀ j, j < r.length → Lib.bitLen (r.getD j 0) ≤ r.length) := Lib.hid (by rw [HRL.out]; exact HI.out)
        clear HI
        go_wp2
        go_loopw [6, 33] (fun v i wr => ∃ (k : Nat) (xs : List Value), k ≤ n ∧ i = .int .i64 k ∧ Hid (xs = ints (lQ r n k)) ∧ wr.ownsRow w.heap.size 3 1 v k xs ∧ Below w.heap.size w wr) (fun _ i _ => n - (intOf i).toNat)
        case atStart => exact ⟨0, [], Nat.zero_le _, rfl, Lib.hid rfl, World.ownsRow_nil _ _ _ _, Below.refl _ _⟩
        case round =>
          obtain ⟨k, xs, hk, rfl, HO, hown, hb⟩ := hrel
          have hsz := hb.size
          by_cases hlt : k < n
          · obtain ⟨ad, hA, _, hc⟩ := (HR.out.below hb).word_k hlt
            subst hA
            have hxw : r.getD k 0 < 18446744073709551616 := words_getD HWD.out k
            have HX : Hid (xs ++ [.int .i64 (lowD (r.getD k 0) k (k + 1) : Int)] = ints (lQ r n (k + 1))) := Lib.hid (by rw [lQ_succ, ints_snoc, HO.out])
            generalize r.getD k 0 = x at *
            clear HO
            go_wp2
            go_loopw [8, 9] (fun lv jv wx => ∃ e1 : Nat, e1 ≤ k + 1 ∧ jv = .int .i64 ((e1 : Int) - 1) ∧ lv = .int .i64 ((lowD x k (k + 1 - e1) : Nat) : Int) ∧ wr = wx) (fun _ jv _ => ((intOf jv) + 1).toNat)
            case atStart => exact ⟨k + 1, Nat.le_refl _, by (congr 1; omega), by rw [Nat.sub_self]; rfl, rfl⟩
            case round =>
              obtain ⟨e1, he, rfl, rfl, rfl⟩ := hrel
              cases e1 with
              | zero =>
                have hz : ((0 : Nat) : Int) - 1 = -1 := by decide
                rw [hz, Nat.sub_zero]
                have hl64 : lowD x k (k + 1) ≤ k := lowD_le x k _
                generalize lowD x k (k + 1) = lo at *
                go_wp2_with (at_builtin; refine wpList_append_own _ rfl _ _ 24 rfl w.heap.size 3 i0 (.int .i64 0) 1 8 Tryd.underlying24 hi hz0 hz1 hz2 rfl (by decide) _ _ _ rfl (hown.alloc _) ⟨wr.heap.size, 0, none⟩ 1 1 [.int .i64 lo] rfl rfl ?c1 ?c2 ?c3 ?c4 ?c5 ?_)
                case c1 =>
                  intro j u hj
                  match j, hj with
                  | 0, hj => simp at hj; subst hj; simp [Addr.add]
                case c2 => intro u hu; simp at hu; subst hu; rfl
                case c3 => unfold maxLen; omega
                case c4 => omega
                case c5 => simp; omega
                intro v' w3 hown' hgrow _
                have hb3 : Below w.heap.size w w3 := (hb.alloc hsz _).grown hgrow (by simp; omega) (fun j hj => ((hown.alloc (.cells #[.int .i64 lo] 3)).lt j hj).1)
                clear hgrow hown hb
                go_wp2
                go_roundw
                case rel => exact ⟨k + 1, _, by omega, by go_num, HX, hown', hb3⟩
                case measure => simp [intOf]; omega
              | succ m =>
                have hz : ((m + 1 : Nat) : Int) - 1 = (m : Int) := by omega
                rw [hz]
                have hs : lowD x k (k + 1 - m) = if x.testBit m then m else lowD x k (k + 1 - (m + 1)) := by
                  rw [show k + 1 - m = (k + 1 - (m + 1)) + 1 by omega, lowD, show k - (k + 1 - (m + 1)) = m by omega]
                have hbt := bitu x m hxw
                have hsh := shru x m
                have HS := Lib.hid hs
                have hm64 : m < 64 := by omega
                cases hb1 : x.testBit m with
                | true =>
                  rw [hb1] at hbt
                  have HN : Hid (lowD x k (k + 1 - m) = m) := Lib.hid (by rw [HS.out, hb1]; rfl)
                  clear hs HS hb1
                  generalize lowD x k (k + 1 - (m + 1)) = old at *
                  generalize x / 2 ^ m = y at *
                  go_wp2
                  go_roundw
                  case rel => exact ⟨m, by omega, by first | rfl | (congr 1; omega), by rw [HN.out], by first | rfl | trivial⟩
                  case measure => simp [intOf]
                | false =>
                  rw [hb1] at hbt
                  have HN : Hid (lowD x k (k + 1 - m) = lowD x k (k + 1 - (m + 1))) := Lib.hid (by rw [HS.out, hb1]; rfl)
                  clear hs HS hb1
                  generalize hold : lowD x k (k + 1 - (m + 1)) = old at *
                  clear hold
                  generalize x / 2 ^ m = y at *
                  go_wp2
                  go_roundw
                  case rel => exact ⟨m, by omega, by first | rfl | (congr 1; omega), by rw [HN.out], by first | rfl | trivial⟩
                  case measure => simp [intOf]
          · have hkn : n = k := by omega
            subst hkn
            obtain ⟨A', c', rfl, hRd⟩ := own_readsV hown
            rw [HO.out] at hRd
            have HRD := Lib.hid hRd
            have HB := Lib.hid hb
            have HCK := Lib.hid (pRefCheck_any (lQ r n n) A' n c' _ wr hRd (by unfold maxLen; omega))
            have HN1 := Lib.hid (of_ref_no1 (r := r) (by rw [HRL.out]; exact h64) HFB.out HWD.out)
            have HN2 := Lib.hid (fun i => of_ref_no2 (r := r) (by rw [HRL.out]; exact h64) HFB.out HWD.out (i := i))
            have HY := Lib.hid (of_ref_yes (r := r) (by rw [HRL.out]; exact h64) HFB.out HWD.out)
            rw [HRL.out] at HN1 HN2 HY
            clear hRd hown hb HO
            by_cases hpe : partErr (lQ r n n) = 0
            · have HY2 := Lib.hid (HY.out hpe)
              rw [hpe] at HCK
              clear hpe HN1 HY
              go_wp2_with fail
              refine (HCK.out).mono ?_
              rintro e w4 ⟨rfl, rfl⟩
              go_wp2
              go_loopw [61] (fun i wx => ∃ k q : Nat, k ≤ n ∧ i = .int .i64 k ∧ Hid (∀ j, j < k → r.getD j 0 = blkV (lQ r n n) (j : Int)) ∧ wx = wr.drewN q) (fun i _ => n - (intOf i).toNat)
              case atStart => exact ⟨0, 0, Nat.zero_le _, rfl, Lib.hid (fun j hj => absurd hj (by omega)), rfl⟩
              case round =>
                obtain ⟨k, q, hk, rfl, HI, rfl⟩ := hrel
                by_cases hlt : k < n
                · obtain ⟨ad, hA, _, hc⟩ := (HR.out.below HB.out).word_k hlt
                  subst hA
                  have HBK : Hid (∀ s, Calls Tryd.prog 59 #[.slice A' n c', .int .i64 k] (wr.drewN (q + s)) fun e w' => e = .returned (.int .u64 (blkV (lQ r n n) (k : Int) : Int)) ∧ ∃ m, w' = wr.drewN (q + m)) := Lib.hid (fun s => (pRefBlock_any (lQ r n n) (k : Int) A' n c' (wr.drewN (q + s)) (HRD.out.drewN (q + s)) (by unfold maxLen; omega)).mono fun e w' ⟨h1, m, h2⟩ => ⟨h1, s + m, by rw [h2, World.drewN_drewN, Nat.add_assoc]⟩)
                  by_cases heq : r.getD k 0 = blkV (lQ r n n) (k : Int)
                  · have HN : Hid (∀ j, j < k + 1 → r.getD j 0 = blkV (lQ r n n) (j : Int)) := Lib.hid (fun j hj => by
                      by_cases e : j = k
                      · subst e; exact heq
                      · exact HI.out j (by omega))
                    rw [← heq] at HBK
                    clear heq HI HN2
                    generalize r.getD k 0 = x at *
                    have hxx : ((x : Int) != (x : Int)) = false := by simp
                    go_wp2
                    go_quiet (first | (go_at_call 59; exact HBK.out _))
                    go_wp2
                    go_roundw
                    case rel => exact ⟨k + 1, q + nq, by omega, by go_num, HN, by first | rfl | rw [World.drewN_drewN]⟩
                    case measure => simp [intOf]; omega
                  · have HE := Lib.hid (HN2.out k hlt heq)
                    have hxx : ((r.getD k 0 : Int) != (blkV (lQ r n n) (k : Int) : Int)) = true := by rw [bne_iff_ne]; omega
                    clear HI HN2 HY2
                    generalize r.getD k 0 = x at *
                    generalize blkV (lQ r n n) (k : Int) = y at *
                    clear heq
                    go_wp2
                    go_quiet (first | (go_at_call 59; exact HBK.out _))
                    go_wp2
                    go_ret2
                    exact GO.of HE.out (GO_noneB (below_drewN (below_drewN HB.out _) _))
                · have hkn : n = k := by omega
                  subst hkn
                  have HE := Lib.hid (HY2.out HI.out)
                  go_wp2
                  go_ret2
                  refine GO.of HE.out ⟨A', c', ?_, by rw [lQ_length]; exact HRD.out.drewN q, below_drewN HB.out q⟩
                  rw [lQ_length]
                  rfl
            · have HE := Lib.hid (HN1.out hpe)
              have hne : (partErr (lQ r n n) != 0) = true := by rw [bne_iff_ne]; exact hpe
              generalize partErr (lQ r n n) = z at *
              clear hpe HN1 HN2 HY
              go_wp2_with fail
              refine (HCK.out).mono ?_
              rintro e w4 ⟨rfl, rfl⟩
              go_wp2
              go_ret2
              exact GO.of HE.out (GO_noneB HB.out)
  · have HE := Lib.hid (of_big (r := r) (by omega))
    have hdm : decide ((64 : Int) < (n : Int)) = true := by simp; omega
    clear h64 hrl
    go_enter Tryd.func14, Tryd.ntmps14
    go_wp2
    go_ret2
    exact GO.of HE.out GO_none
end Go.Proofs.YtichhbnpdhfimaaDoor
