/- Layer 9: BooleanCovers: the prime implicants cover exactly the table, none is contained in another one, and no fact of one can be left out. -/
import Derived.Test.YtkkkomkljpolbaaDoorNIp
import Derived.Test.YtkkkomkljpolbaaDoorNIw
import Derived.Test.YtkkkomkljpolbaaDoorNIy
namespace Go.Proofs.YtkkkomkljpolbaaDoor.booleanCovers
open Go.ChangeShapes Go.WideShapes Go.ChangeAt Go.RowKit Go.Proofs.YtkkkomkljpolbaaDoor Go.Proofs.YtkkkomkljpolbaaDoor.bol Go.Proofs.Ws Go.Maps
open Go.ChangeMaps (open_string shut_string)
/-- how many cubes there are -/
def cubeB (c : Nat × Nat) : Bool := decide (c.2 &&& c.1 = c.2)
theorem cubes_81 : ((pairsL 16).filter cubeB).length = 81 := by decide +kernel
theorem primes_81 (t : Nat) : (primesF t 4).length ≤ 81 := by
  have e : primesF t 4 = ((pairsL 16).filter cubeB).filter (primeB t 4) := by
    unfold primesF
    rw [List.filter_filter]
    refine List.filter_congr (fun c _ => ?_)
    cases h : primeB t 4 c with
    | false => rfl
    | true =>
      have := (primeB_iff.1 h).1.2
      show true = (true && cubeB c)
      unfold cubeB
      rw [decide_eq_true this]; rfl
  rw [e, ← cubes_81]
  exact List.length_filter_le _ _
theorem chk_16 {t : Nat} (ht : t < 65536) : chkT t 4 = 0 := by
  unfold chkT
  rw [if_pos (by decide)]
  have h := (chk_iff (t := t) (n := 4) (by omega) (by decide)).2 (Nat.div_eq_of_lt (by exact ht))
  exact if_pos h
def covB (L : List (Nat × Nat)) (v i : Nat) : Bool := (L.take i).any (fun c => decide (v &&& c.1 = c.2))
theorem covB_succ (L : List (Nat × Nat)) (v : Nat) {i : Nat} (h : i < L.length) : covB L v (i + 1) = (covB L v i || decide (v &&& (L.getD i (0, 0)).1 = (L.getD i (0, 0)).2)) := by
  unfold covB
  rw [List.take_succ_eq_append_getElem h, List.any_append, List.getD_eq_getElem?_getD, List.getElem?_eq_getElem h]
  simp
theorem covB_all {t v : Nat} (hv : v < 16) : covB (primesF t 4) v (primesF t 4).length = t.testBit v := by
  have h := cover_iff (t := t) (n := 4) (v := v) hv
  rw [Bool.eq_iff_iff, h]
  unfold covB
  rw [List.take_length, List.any_eq_true]
  constructor
  · rintro ⟨c, hc, hd⟩
    exact ⟨c, (primesF_mem c).1 hc, of_decide_eq_true hd⟩
  · rintro ⟨c, hc, hd⟩
    exact ⟨c, (primesF_mem c).2 hc, decide_eq_true hd⟩
theorem pr_bounds {t : Nat} {i : Nat} (h : i < (primesF t 4).length) : prime t 4 ((primesF t 4).getD i (0, 0)) ∧ ((primesF t 4).getD i (0, 0)).1 < 16 ∧ ((primesF t 4).getD i (0, 0)).2 < 16 := by
  have hm : (primesF t 4).getD i (0, 0) ∈ primesF t 4 := by rw [List.getD_eq_getElem?_getD, List.getElem?_eq_getElem h]; exact List.getElem_mem _
  have hp := (primesF_mem _).1 hm
  refine ⟨hp, hp.1.1, Nat.lt_of_le_of_lt ?_ hp.1.1⟩
  rw [← hp.1.2]
  exact Nat.and_le_right
theorem pr_apart {t i k : Nat} (hi : i < (primesF t 4).length) (hk : k < (primesF t 4).length) (hne : i ≠ k) (h1 : ((primesF t 4).getD k (0, 0)).1 &&& ((primesF t 4).getD i (0, 0)).1 = ((primesF t 4).getD k (0, 0)).1) :
    ((primesF t 4).getD i (0, 0)).2 &&& ((primesF t 4).getD k (0, 0)).1 ≠ ((primesF t 4).getD k (0, 0)).2 := by
  intro h2
  have e := prime_apart (pr_bounds hi).1 (pr_bounds hk).1 (fun j hj => by
    have h3 : (((primesF t 4).getD k (0, 0)).1 &&& ((primesF t 4).getD i (0, 0)).1).testBit j = true := by rw [h1]; exact hj
    rw [Nat.testBit_and, Bool.and_eq_true] at h3
    exact h3.2) h2
  rw [List.getD_eq_getElem?_getD, List.getElem?_eq_getElem hi, List.getD_eq_getElem?_getD, List.getElem?_eq_getElem hk] at e
  have hs := primesF_sorted t 4
  rcases Nat.lt_or_gt_of_ne hne with h | h
  · have := List.pairwise_iff_getElem.1 hs i k hi hk h
    simp only [Option.getD_some] at e
    rw [e] at this
    exact cLt_irrefl _ this
  · have := List.pairwise_iff_getElem.1 hs k i hk hi h
    simp only [Option.getD_some] at e
    rw [e] at this
    exact cLt_irrefl _ this
/-- a valuation outside the table is among the first v of the cube without a fact -/
def outB (t c1 c2 j v : Nat) : Bool := (List.range v).any (fun u => decide (u &&& clr c1 j = clr c2 j) && !t.testBit u)
theorem outB_succ (t c1 c2 j v : Nat) : outB t c1 c2 j (v + 1) = (outB t c1 c2 j v || (decide (v &&& clr c1 j = clr c2 j) && !t.testBit v)) := by
  unfold outB
  rw [List.range_succ, List.any_append]
  simp
theorem outB_all {t j : Nat} {c : Nat × Nat} (hc : prime t 4 c) (hj : c.1.testBit j = true) : outB t c.1 c.2 j 16 = true := by
  obtain ⟨v, h1, h2, h3⟩ := prime_out hc hj
  unfold outB
  rw [List.any_eq_true]
  exact ⟨v, List.mem_range.2 h1, by rw [decide_eq_true h2, h3]; rfl⟩
theorem and_all : ∀ a b : Fin 16, bits .and .i64 (a.val : Int) (b.val : Int) = ((a.val &&& b.val : Nat) : Int) ∧ (bits .andNot .i64 (a.val : Int) (b.val : Int) == 0) = decide (a.val &&& b.val = a.val) := by decide +kernel
theorem not_all : ∀ a : Fin 16, ∀ j : Fin 4, bits .andNot .i64 (a.val : Int) ((2 ^ j.val : Nat) : Int) = ((clr a.val j.val : Nat) : Int) ∧ (bits .and .i64 (a.val : Int) ((2 ^ j.val : Nat) : Int) != 0) = a.val.testBit j.val ∧ clr a.val j.val < 16 := by decide +kernel
theorem bit_u16 (t v : Nat) (ht : t < 65536) : bits .and .u16 ((t : Int) / 2 ^ v) 1 = if t.testBit v = true then 1 else 0 := by
  have e : (t : Int) / 2 ^ v = ((t / 2 ^ v : Nat) : Int) := by push_cast; rfl
  have h := (bits_nat .u16 16 (by decide) (fun n h0 h1 => by unfold IntKind.wrap; simp [IntKind.bits, IntKind.signed]; omega) (t / 2 ^ v) 1 (Nat.lt_of_le_of_lt (Nat.div_le_self _ _) ht) (by decide)).1
  rw [e]
  have e2 : ((1 : Nat) : Int) = 1 := rfl
  rw [e2] at h
  rw [h, Nat.and_one_is_mod, Nat.testBit_eq_decide_div_mod_eq]
  have hm : t / 2 ^ v % 2 < 2 := Nat.mod_lt _ (by decide)
  generalize t / 2 ^ v % 2 = z at *
  have : z = 0 ∨ z = 1 := by omega
  rcases this with rfl | rfl <;> rfl
set_option maxRecDepth 100000 in
set_option maxHeartbeats 8000000 in
theorem walk (t : Nat) (ht : t < 65536) (w : World) (hE : EnvB w w.heap.size) :
    Calls Tryd.prog 12 #[.int .u16 (t : Int)] w fun e w' => e = .returned (.bool true) ∧ Below w.heap.size w w' := by
  have HE := Lib.hid hE
  have HP := Lib.hid (pImpl_any t (by omega) 4 w)
  rw [chk_16 ht] at HP
  have HPR : Hid (∀ l : List (Nat × Nat), (l.Pairwise cLt ∧ ∀ x, x ∈ l ↔ prime t 4 x) → l = primesF t 4) := Lib.hid (fun l h => primes_are h.1 h.2)
  have HCV : Hid (∀ v, v < 16 → covB (primesF t 4) v (primesF t 4).length = t.testBit v) := Lib.hid (fun v hv => covB_all hv)
  have HCS : Hid (∀ v i, i < (primesF t 4).length → covB (primesF t 4) v (i + 1) = (covB (primesF t 4) v i || decide (v &&& ((primesF t 4).getD i (0, 0)).1 = ((primesF t 4).getD i (0, 0)).2))) := Lib.hid (fun v i h => covB_succ _ v h)
  have HPB : Hid (∀ i, i < (primesF t 4).length → ((primesF t 4).getD i (0, 0)).1 < 16 ∧ ((primesF t 4).getD i (0, 0)).2 < 16) := Lib.hid (fun i h => (pr_bounds h).2)
  have HAP : Hid (∀ i k, i < (primesF t 4).length → k < (primesF t 4).length → i ≠ k → ((primesF t 4).getD k (0, 0)).1 &&& ((primesF t 4).getD i (0, 0)).1 = ((primesF t 4).getD k (0, 0)).1 → ((primesF t 4).getD i (0, 0)).2 &&& ((primesF t 4).getD k (0, 0)).1 ≠ ((primesF t 4).getD k (0, 0)).2) := Lib.hid (fun i k hi hk hne h => pr_apart hi hk hne h)
  have HOA : Hid (∀ i, i < (primesF t 4).length → ∀ j, ((primesF t 4).getD i (0, 0)).1.testBit j = true → outB t ((primesF t 4).getD i (0, 0)).1 ((primesF t 4).getD i (0, 0)).2 j 16 = true) := Lib.hid (fun i h j hj => outB_all (pr_bounds h).1 hj)
  have h81 := primes_81 t
  have HLEN : Hid (∀ l : List (Nat × Nat), l = primesF t 4 → l.length = (primesF t 4).length) := Lib.hid (fun l h => by rw [h])
  generalize primesF t 4 = L at *
  generalize hn : L.length = n at *
  have HNL := Lib.hid hn
  clear hn hE
  go_enter Tryd.func12, Tryd.ntmps12
  go_wp2_with fail
  refine (HP.out).mono ?_
  rintro e w1 ⟨A1, c1, l1, rfl, hr1, _, hs1, hb1⟩
  have hl1 := HPR.out l1 (hs1 trivial)
  have hl2 := HLEN.out l1 hl1
  subst hl1
  rw [hl2] at hr1
  rw [hl2]
  have HR1 := Lib.hid (Reads.of_own hr1)
  have HB1 := Lib.hid hb1
  clear hr1 hs1 hb1 HP HPR HLEN hl2
  go_wp2
  go_loopw [5, 6, 7] (fun v _ _ wr => ∃ v' : Nat, v' ≤ 16 ∧ v = .int .i64 v' ∧ Hid (Below w1.heap.size w1 wr)) (fun v _ _ _ => 16 - (intOf v).toNat)
  case atStart => exact ⟨0, Nat.zero_le _, rfl, Lib.hid (Below.refl _ _)⟩
  case round =>
    obtain ⟨v, hv, rfl, HBV⟩ := hrel
    by_cases hv16 : v < 16
    · go_wp2
      go_loopw [6, 7] (fun cv i wr => ∃ i' : Nat, i' ≤ n ∧ i = .int .i64 i' ∧ cv = .bool (covB l1 v i') ∧ Hid (Below w1.heap.size w1 wr)) (fun _ i _ => n - (intOf i).toNat)
      case atStart => exact ⟨0, Nat.zero_le _, rfl, rfl, HBV⟩
      case round =>
        obtain ⟨i, hi, rfl, rfl, HBI⟩ := hrel
        by_cases hin : i < n
        · have HCS1 := Lib.hid (HCS.out v i hin)
          obtain ⟨adc, rfl, _, cc1, cc2⟩ := (HR1.out.below HBI.out).cb_at hin
          have lc2 := add_cell cc2
          obtain ⟨b1, b2⟩ := HPB.out i hin
          have hand := (and_all ⟨v, hv16⟩ ⟨_, b1⟩).1
          dsimp only at hand
          generalize l1.getD i (0, 0) = c at *
          obtain ⟨c1, c2⟩ := c
          dsimp only at cc1 cc2 lc2 b1 b2 hand HCS1
          cases hcb : covB l1 v i
          · rw [hcb] at HCS1
            by_cases hq : v &&& c1 = c2
            · have q1 : (bits .and .i64 (v : Int) (c1 : Int) == (c2 : Int)) = true := by rw [hand, hq]; simp
              have HN2 : Hid (covB l1 v (i + 1) = true) := Lib.hid (HCS1.out.trans (by rw [decide_eq_true hq]; rfl))
              clear hand hq hcb HCS1
              go_wp2_with fail
              go_quiet (fail)
              go_wp2
              go_roundw
              case rel => exact ⟨i + 1, by omega, by go_num, by rw [HN2.out], Lib.hid (below_drewN HBI.out _)⟩
              case measure => simp [intOf]; omega
            · have q1 : (bits .and .i64 (v : Int) (c1 : Int) == (c2 : Int)) = false := by
                rw [hand, beq_eq_false_iff_ne]
                exact fun e => hq (by exact_mod_cast e)
              have HN2 : Hid (covB l1 v (i + 1) = false) := Lib.hid (HCS1.out.trans (by rw [decide_eq_false hq]; rfl))
              clear hand hq hcb HCS1
              go_wp2_with fail
              go_quiet (fail)
              go_wp2
              go_roundw
              case rel => exact ⟨i + 1, by omega, by go_num, by rw [HN2.out], Lib.hid (below_drewN HBI.out _)⟩
              case measure => simp [intOf]; omega
          · rw [hcb] at HCS1
            have HN2 : Hid (covB l1 v (i + 1) = true) := Lib.hid (HCS1.out.trans (by rw [Bool.true_or]))
            clear hand hcb HCS1
            go_wp2_with fail
            go_quiet (fail)
            go_wp2
            go_roundw
            case rel => exact ⟨i + 1, by omega, by go_num, by rw [HN2.out], Lib.hid (below_drewN HBI.out _)⟩
            case measure => simp [intOf]; omega
        · have hin2 : n = i := by omega
          subst hin2
          rw [HCV.out v hv16]
          have hbit := bit_u16 t v ht
          clear hin
          cases hb : t.testBit v
          · rw [hb, if_neg (by decide)] at hbit
            clear hb
            go_wp2
            go_roundw
            case rel => exact ⟨v + 1, by omega, by go_num, HBI⟩
            case measure => simp [intOf]; omega
          · rw [hb, if_pos rfl] at hbit
            clear hb
            go_wp2
            go_roundw
            case rel => exact ⟨v + 1, by omega, by go_num, HBI⟩
            case measure => simp [intOf]; omega
    · have hv2 : v = 16 := by omega
      subst hv2
      clear hv16
      rw [show ((16 : Nat) : Int) = 16 from rfl]
      go_wp2
      go_loopw [8, 9, 10, 11, 12] (fun i _ _ _ _ wr => ∃ i' : Nat, i' ≤ n ∧ i = .int .i64 i' ∧ Hid (Below w1.heap.size w1 wr)) (fun i _ _ _ _ _ => n - (intOf i).toNat)
      case atStart => exact ⟨0, Nat.zero_le _, rfl, HBV⟩
      case round =>
        obtain ⟨i, hi, rfl, HBI⟩ := hrel
        by_cases hin : i < n
        · obtain ⟨hc1, hc2⟩ := HPB.out i hin
          go_wp2
          go_loopw [9] (fun k wr => ∃ k' : Nat, k' ≤ n ∧ k = .int .i64 k' ∧ Hid (Below w1.heap.size w1 wr)) (fun k _ => n - (intOf k).toNat)
          case atStart => exact ⟨0, Nat.zero_le _, rfl, HBI⟩
          case round =>
            obtain ⟨k, hk, rfl, HBK⟩ := hrel
            by_cases hkn : k < n
            · obtain ⟨adc, rfl, _, ci1, ci2⟩ := (HR1.out.below HBK.out).cb_at hin
              obtain ⟨adc2, e2, _, ck1, ck2⟩ := (HR1.out.below HBK.out).cb_at hkn
              injection e2 with e2
              subst e2
              have li2 := add_cell ci2
              have lk2 := add_cell ck2
              obtain ⟨d1, d2⟩ := HPB.out k hkn
              by_cases hik : i = k
              · have g1 : (((i : Nat) : Int) != ((k : Nat) : Int)) = false := by rw [hik]; simp
                clear hik
                go_wp2_with fail
                go_quiet (fail)
                go_wp2
                go_roundw
                case rel => exact ⟨k + 1, by omega, by go_num, Lib.hid (below_drewN HBK.out _)⟩
                case measure => simp [intOf]; omega
              · have g1 : (((i : Nat) : Int) != ((k : Nat) : Int)) = true := by
                  simp only [bne_iff_ne, ne_eq]
                  exact fun e => hik (by exact_mod_cast e)
                have hap := HAP.out i k hin hkn hik
                have g2 := (and_all ⟨(l1.getD k (0, 0)).1, d1⟩ ⟨(l1.getD i (0, 0)).1, hc1⟩).2
                have g3 := (and_all ⟨(l1.getD i (0, 0)).2, hc2⟩ ⟨(l1.getD k (0, 0)).1, d1⟩).1
                dsimp only at g2 g3
                generalize (l1.getD i (0, 0)).1 = c1 at *
                generalize (l1.getD i (0, 0)).2 = c2 at *
                generalize (l1.getD k (0, 0)).1 = k1 at *
                generalize (l1.getD k (0, 0)).2 = k2 at *
                by_cases hg : k1 &&& c1 = k1
                · rw [decide_eq_true hg] at g2
                  have g4 : (bits .and .i64 (c2 : Int) (k1 : Int) == (k2 : Int)) = false := by
                    rw [g3, beq_eq_false_iff_ne]
                    exact fun e => hap hg (by exact_mod_cast e)
                  clear hap hg hik g3
                  go_wp2_with fail
                  go_quiet (fail)
                  go_wp2
                  go_roundw
                  case rel => exact ⟨k + 1, by omega, by go_num, Lib.hid (below_drewN HBK.out _)⟩
                  case measure => simp [intOf]; omega
                · rw [decide_eq_false hg] at g2
                  clear hap hg hik g3
                  go_wp2_with fail
                  go_quiet (fail)
                  go_wp2
                  go_roundw
                  case rel => exact ⟨k + 1, by omega, by go_num, Lib.hid (below_drewN HBK.out _)⟩
                  case measure => simp [intOf]; omega
            · have hkn2 : n = k := by omega
              subst hkn2
              clear hkn
              go_wp2
              go_loopw [10, 11, 12] (fun b _ _ wr => ∃ j : Nat, j ≤ 4 ∧ b = .int .i64 ((2 ^ j : Nat) : Int) ∧ Hid (Below w1.heap.size w1 wr)) (fun b _ _ _ => 32 - (intOf b).toNat)
              case atStart => exact ⟨0, Nat.zero_le _, rfl, HBK⟩
              case round =>
                obtain ⟨j, hj, rfl, HBJ⟩ := hrel
                by_cases hj4 : j < 4
                · have hB : 2 ^ j < 16 := Nat.pow_lt_pow_right (n := 4) (by decide) hj4
                  have HB2 : Hid (((2 ^ (j + 1) : Nat) : Int) = ((2 ^ j : Nat) : Int) * 2) := Lib.hid (by rw [Nat.pow_succ]; push_cast; rfl)
                  obtain ⟨B, hBe⟩ : ∃ B : Nat, 2 ^ j = B := ⟨_, rfl⟩
                  have HBE := Lib.hid hBe
                  have hB0 : 0 < 2 ^ j := Nat.two_pow_pos j
                  rw [hBe] at hB HB2 hB0
                  rw [hBe]
                  clear hBe
                  have hBd : decide (((B : Nat) : Int) < 16) = true := decide_eq_true (by omega)
                  go_wp2
                  try rw [hBd]
                  clear hBd
                  go_loopw [11, 12] (fun ou v wr => ∃ v' : Nat, v' ≤ 16 ∧ v = .int .i64 v' ∧ ou = .bool (outB t (l1.getD i (0, 0)).1 (l1.getD i (0, 0)).2 j v') ∧ Hid (Below w1.heap.size w1 wr)) (fun _ v _ => 16 - (intOf v).toNat)
                  case atStart => exact ⟨0, Nat.zero_le _, rfl, rfl, HBJ⟩
                  case round =>
                    obtain ⟨v, hv, rfl, rfl, HBV⟩ := hrel
                    by_cases hv16 : v < 16
                    · obtain ⟨adc, rfl, _, cc1, cc2⟩ := (HR1.out.below HBV.out).cb_at hin
                      have lc2 := add_cell cc2
                      have HOS := Lib.hid (outB_succ t (l1.getD i (0, 0)).1 (l1.getD i (0, 0)).2 j v)
                      have hn1 := (not_all ⟨(l1.getD i (0, 0)).1, hc1⟩ ⟨j, hj4⟩)
                      have hn2 := (not_all ⟨(l1.getD i (0, 0)).2, hc2⟩ ⟨j, hj4⟩)
                      have hand := (and_all ⟨v, hv16⟩ ⟨_, hn1.2.2⟩).1
                      have hn1 := hn1.1
                      have hn2 := hn2.1
                      have hbit := bit_u16 t v ht
                      dsimp only at hn1 hn2 hand
                      rw [HBE.out] at hn1 hn2
                      cases hob : outB t (l1.getD i (0, 0)).1 (l1.getD i (0, 0)).2 j v
                      · rw [hob] at HOS
                        generalize hob2 : outB t (l1.getD i (0, 0)).1 (l1.getD i (0, 0)).2 j (v + 1) = ob2 at *
                        have HOQ : Hid (Value.bool ob2 = Value.bool (outB t (l1.getD i (0, 0)).1 (l1.getD i (0, 0)).2 j (v + 1))) := Lib.hid (by rw [hob2])
                        clear hob2
                        generalize clr (l1.getD i (0, 0)).1 j = d1 at *
                        generalize clr (l1.getD i (0, 0)).2 j = d2 at *
                        generalize (l1.getD i (0, 0)).1 = c1 at *
                        generalize (l1.getD i (0, 0)).2 = c2 at *
                        by_cases hq : v &&& d1 = d2
                        · have q1 : (bits .and .i64 (v : Int) (d1 : Int) == (d2 : Int)) = true := by rw [hand, hq]; simp
                          rw [decide_eq_true hq] at HOS
                          clear hand hq
                          cases hb : t.testBit v
                          · rw [hb] at HOS
                            rw [hb, if_neg (by decide)] at hbit
                            have h2 : ob2 = true := HOS.out
                            subst h2
                            clear hb
                            go_wp2_with fail
                            go_quiet (fail)
                            go_wp2
                            go_roundw
                            case rel => exact ⟨v + 1, by omega, by go_num, HOQ.out, Lib.hid (below_drewN HBV.out _)⟩
                            case measure => simp [intOf]; omega
                          · rw [hb] at HOS
                            rw [hb, if_pos rfl] at hbit
                            have h2 : ob2 = false := HOS.out
                            subst h2
                            clear hb
                            go_wp2_with fail
                            go_quiet (fail)
                            go_wp2
                            go_roundw
                            case rel => exact ⟨v + 1, by omega, by go_num, HOQ.out, Lib.hid (below_drewN HBV.out _)⟩
                            case measure => simp [intOf]; omega
                        · have q1 : (bits .and .i64 (v : Int) (d1 : Int) == (d2 : Int)) = false := by
                            rw [hand, beq_eq_false_iff_ne]
                            exact fun e => hq (by exact_mod_cast e)
                          rw [decide_eq_false hq] at HOS
                          have h2 : ob2 = false := HOS.out
                          subst h2
                          clear hand hq
                          go_wp2_with fail
                          go_quiet (fail)
                          go_wp2
                          go_roundw
                          case rel => exact ⟨v + 1, by omega, by go_num, HOQ.out, Lib.hid (below_drewN HBV.out _)⟩
                          case measure => simp [intOf]; omega
                      · rw [hob, Bool.true_or] at HOS
                        generalize hob2 : outB t (l1.getD i (0, 0)).1 (l1.getD i (0, 0)).2 j (v + 1) = ob2 at *
                        have HOQ : Hid (Value.bool ob2 = Value.bool (outB t (l1.getD i (0, 0)).1 (l1.getD i (0, 0)).2 j (v + 1))) := Lib.hid (by rw [hob2])
                        clear hob2
                        have h2 : ob2 = true := HOS.out
                        subst h2
                        clear hand hob hn1 hn2 hbit
                        go_wp2_with fail
                        go_quiet (fail)
                        go_wp2
                        go_roundw
                        case rel => exact ⟨v + 1, by omega, by go_num, HOQ.out, Lib.hid (below_drewN HBV.out _)⟩
                        case measure => simp [intOf]; omega
                    · have hv2 : v = 16 := by omega
                      subst hv2
                      obtain ⟨adc, rfl, _, cc1, cc2⟩ := (HR1.out.below HBV.out).cb_at hin
                      have lc2 := add_cell cc2
                      have hn1 := (not_all ⟨(l1.getD i (0, 0)).1, hc1⟩ ⟨j, hj4⟩).2.1
                      dsimp only at hn1
                      rw [HBE.out] at hn1
                      have hlo := HOA.out i hin j
                      cases hb : (l1.getD i (0, 0)).1.testBit j
                      · rw [hb] at hn1
                        generalize outB t (l1.getD i (0, 0)).1 (l1.getD i (0, 0)).2 j 16 = ob2 at *
                        generalize (l1.getD i (0, 0)).1 = c1 at *
                        generalize (l1.getD i (0, 0)).2 = c2 at *
                        clear hb hv16 hlo
                        go_wp2
                        go_roundw
                        case rel => exact ⟨j + 1, by omega, by rw [HB2.out], HBV⟩
                        case measure => simp [intOf]; omega
                      · rw [hb] at hn1
                        rw [hlo hb]
                        generalize (l1.getD i (0, 0)).1 = c1 at *
                        generalize (l1.getD i (0, 0)).2 = c2 at *
                        clear hb hv16 hlo
                        go_wp2
                        go_roundw
                        case rel => exact ⟨j + 1, by omega, by rw [HB2.out], HBV⟩
                        case measure => simp [intOf]; omega
                · have hj2 : j = 4 := by omega
                  subst hj2
                  clear hj4 hj
                  go_wp2
                  go_roundw
                  case rel => exact ⟨i + 1, by omega, by go_num, HBJ⟩
                  case measure => simp [intOf]; omega
        · have hin2 : n = i := by omega
          subst hin2
          clear hin
          have HB2 : Hid (Below w.heap.size w wr) := Lib.hid (HB1.out.trans (HBI.out.mono HB1.out.size))
          go_wp2_with fail
          refine (awake9_any _ ((HE.out.below HB2.out).up HB2.out.size)).mono ?_
          rintro e wz ⟨rfl, hbz⟩
          have HBz := Lib.hid (HB2.out.trans (hbz.mono HB2.out.size))
          clear hbz
          go_wp2
          go_ret
          exact ⟨rfl, HBz.out⟩
set_option maxRecDepth 100000 in
theorem contract (H : Type) (enc : TypeId × Value → H) (W : World) (base : Nat) (args : Array Value) (ds gs : List (DataW H)) (before : List MemPlace)
    (hval : ∀ (j : Nat) t v, Tryd.f12.params[j]? = some t → args[j]? = some v → Value.okWide Tryd.prog W .any base t v)
    (hW : DataW.Whole enc Tryd.prog Tryd.f12.params.toList Rows.booleanCoversSpec.vars false W args.toList ds gs before) (hE : EnvB W W.heap.size) :
    Calls Tryd.prog 12 args W fun e W' => ∃ v, e = .returned v ∧ Rows.booleanCoversSpec.post enc Tryd.prog Tryd.f12 false true false false W args v W' := by
  have hW' := hW
  obtain ⟨p, q, hA0, hV, rfl, hfz, hnd⟩ := hW
  have hA : DataW.TrodAll enc Tryd.prog W 0 (fun _ => true) true Tryd.f12.params.toList args.toList ds p := hA0
  rw [Tryd.params12] at hA hval
  obtain ⟨v0, vs0, d0, ds0, p0, q0, hargs, rfl, rfl, h0, r0⟩ := trodAll_cons hA
  obtain ⟨rfl, rfl, rfl⟩ := trodAll_nil r0
  obtain rfl : args = #[v0] := by cases args; simp_all
  obtain ⟨rfl, rfl⟩ := trodVars_none hV
  obtain ⟨g0, rfl, rfl, rfl, w0⟩ := open_int Tryd.underlying55 (hval 0 55 v0 rfl rfl) h0
  obtain ⟨g0, rfl, hu0⟩ : ∃ n : Nat, g0 = (n : Int) ∧ n < 65536 := by have hz := w0; have q1 : IntKind.u16.min = 0 := rfl; have q2 : IntKind.u16.max = 65535 := rfl; simp [Lit.wf] at hz; exact ⟨g0.toNat, by omega, by omega⟩
  clear hA0
  simp only [List.append_nil] at hW'
  have hwalk := walk g0 hu0 W hE
  refine hwalk.mono fun e W' ⟨he, hg⟩ => ?_
  subst he
  exact ⟨_, rfl, _, _, _, [], _, [], hW', trodAll_mk1 (shut_bool Tryd.underlying4 _), (trodAll_cons_mk (shut_int Tryd.underlying55 w0) trodAll_mk0), rfl, hg.frame _, fun h => by cases h⟩
theorem reads (os : Os) {H : Type} (enc : TypeId × Value → H) : ∃ places, DataW.whole enc Tryd.prog ((laidW os).forCall (fun _ _ => 0) ⟨#[], #[.int .u16 0], []⟩).memory Tryd.f12.params.toList Rows.booleanCoversSpec.vars false #[(.int .u16 0 : Value)].toList 8 = some ([.lit (.int .u16 0)], [], places) :=
  ⟨[], by kernel_rfl⟩
set_option maxRecDepth 100000 in
theorem lifted (os : Os) (started : os.Started) (H : Type) (enc : TypeId × Value → H) (F : Stop.Interp) :
    ReturnsInHanded {} Tryd.checked os 12 .any ((OpenSpec.ofChange Rows.booleanCoversSpec).preRow enc Tryd.prog Tryd.f12 Rows.booleanCoversRow.domain false Rows.booleanCoversRow.laid) (((OpenSpec.ofChange Rows.booleanCoversSpec).at F).post enc Tryd.prog Tryd.f12 false true false false) := by
  obtain ⟨places, hx⟩ := reads os enc
  refine returnsInHanded_of_row (C := Tryd.checked) (s := OpenSpec.ofChange Rows.booleanCoversSpec) own started (by kernel_rfl) Tryd.func12
    (witness_row_atRef (enc := enc) (C := Tryd.checked) false (laidW os) #[.int .u16 0] (laidW_os os) (vars_ok os _) (heap_ok os _) (by kernel_rfl)
      (OpenSpec.preRow_of_cond 8 hx (by kernel_rfl) (fun k hk => by cases hk) (by kernel_rfl) (laid_met os _))) ?_
  intro W base args ds gs before hval hW _ _ _ hL hsh _
  exact contract H enc W base args ds gs before hval hW (env_of hL)
theorem said : Rows.BooleanCoversSaid :=
  OpenClaim.holds_of_cond 12 Tryd.f12 rfl rfl rfl rfl rfl rfl rfl ⟨rfl, rfl, rfl, rfl, rfl⟩ rfl rfl rfl rfl rfl (by kernel_rfl) Tryd.func12 (by kernel_rfl)
    (of_decide_eq_true (by kernel_rfl)) (by unfold Func.isWrapper; first | (rw [if_pos (by decide +kernel)]; kernel_rfl) | (rw [if_neg (by decide +kernel)]; exact ⟨rfl, rfl⟩))
    (fun os started H enc _ F => by rw [OpenClaim.pre_eq_preRow]; exact lifted os started H enc F)
theorem plain (f : FuncId) (fn : Func) (hf : Tryd.pinned.checked.prog.funcNamed "witting/wittinglaw09.BooleanCovers" = some f) (hfn : Tryd.pinned.checked.prog.funcs[f]? = some fn) :
    false = Tryd.pinned.checked.prog.looks [] ∧ ∀ (j : Nat) t, fn.params[j]? = some t → Tryd.pinned.checked.prog.wantsStandIn t = false := by
  obtain rfl : f = 12 := Option.some.inj ((show Tryd.prog.funcNamed "witting/wittinglaw09.BooleanCovers" = some 12 by kernel_rfl).symm.trans hf) |>.symm
  obtain rfl : fn = Tryd.f12 := (Option.some.inj (Tryd.func12.symm.trans hfn)).symm
  refine ⟨no_looks, fun j t ht => ?_⟩
  rw [Tryd.params12] at ht
  have hm : t ∈ [55] := by simpa using Array.mem_of_getElem? ht
  have hall : ([55].all fun u => !Tryd.prog.wantsStandIn u) = true := by kernel_rfl
  exact (show Tryd.prog.wantsStandIn t = false by simpa using List.all_eq_true.1 hall t hm)
theorem card : Rows.BooleanCoversCardSaid :=
  Claim7.holds_tied_plain_at .later [] _ _ _ _ said (fun _ h => by cases h) (by kernel_rfl) (fun _ h => by cases h) booleanCovers_row_tie rfl ⟨rfl, rfl⟩ (by kernel_rfl) rfl plain (by kernel_rfl)
#print axioms card
end Go.Proofs.YtkkkomkljpolbaaDoor.booleanCovers
