/- Layer 9: expand and FromTable by the program: the canonical list of the formula with a truth table. -/
import Derived.Test.YtcdmchaehafijaaDoorNEb
import Derived.Test.YtcdmchaehafijaaDoorNIa
import Derived.Test.YtcdmchaehafijaaDoorNIv
import Derived.Test.YtcdmchaehafijaaDoorNJk
import Derived.Test.YtcdmchaehafijaaDoorNRe
import Derived.Laws.BitsAllLaws
namespace Go.Proofs.YtcdmchaehafijaaDoor
open Go.RowKit Go.Proofs.Ws Go.Maps
set_option maxRecDepth 100000
theorem andNot9 {x y : Nat} (hx : x < 18446744073709551616) : bits .andNot .u64 (x : Int) (y : Int) = ((x ^^^ (x &&& y) : Nat) : Int) := by
  have hz : x ^^^ (x &&& y) < 18446744073709551616 := Nat.xor_lt_two_pow (n := 64) hx (Nat.lt_of_le_of_lt Nat.and_le_left hx)
  show IntKind.u64.wrap ((BitVec.ofInt 64 (x : Int) &&& ~~~ BitVec.ofInt 64 (y : Int)).toNat : Int) = _
  have e : (BitVec.ofInt 64 (x : Int) &&& ~~~ BitVec.ofInt 64 (y : Int)) = BitVec.ofNat 64 (x ^^^ (x &&& y)) := by
    apply BitVec.eq_of_getLsbD_eq
    intro i hi
    have e1 : ∀ x : Nat, (BitVec.ofInt 64 (x : Int)).getLsbD i = x.testBit i := fun x => by
      rw [BitVec.ofInt_natCast, BitVec.getLsbD_ofNat, decide_eq_true hi, Bool.true_and]
    rw [BitVec.getLsbD_and, BitVec.getLsbD_not, e1, e1, decide_eq_true hi, BitVec.getLsbD_ofNat, decide_eq_true hi, Nat.testBit_xor, Nat.testBit_and]
    cases x.testBit i <;> cases y.testBit i <;> rfl
  rw [e, BitVec.toNat_ofNat, Nat.mod_eq_of_lt hz, IntKind.wrap_u64]
  omega
theorem notSub9 {x y : Nat} (hx : x < 18446744073709551616) : (bits .andNot .u64 (x : Int) (y : Int) != 0) = !decide (subB x y) := by
  rw [andNot9 hx]
  by_cases h : subB x y
  · rw [decide_eq_true h]
    unfold subB at h
    rw [h, Nat.xor_self]; rfl
  · rw [decide_eq_false h, Bool.not_false, bne_iff_ne]
    intro e
    apply h
    unfold subB
    apply Nat.eq_of_testBit_eq
    intro i
    have h1 : (x ^^^ (x &&& y)).testBit i = false := by rw [show x ^^^ (x &&& y) = 0 by omega, Nat.zero_testBit]
    rw [Nat.testBit_xor, Nat.testBit_and] at h1
    rw [Nat.testBit_and]
    cases hb : x.testBit i <;> cases hc : y.testBit i <;> simp_all
/-- the canonical list of a tree is handed back -/
def GivesT (t : Tr) (w : World) (e : Ending) (w' : World) : Prop := ∃ A c, e = .returned (.slice A (canT t).length c) ∧ Reads w' w'.heap.size 6 A (canT t).length (nds (canT t)) ∧ Below w.heap.size w w'
theorem all_parts {op : Int} {a b : Tr} (h : AllOk (jT op a b)) : AllOk a ∧ AllOk b := ⟨⟨h.1.2.2.2.1, h.2.2.1⟩, ⟨h.1.2.2.2.2, h.2.2.2⟩⟩
theorem bin_can {a b : Tr} {op : Int} (h : op = 5 ∨ op = 6) (ha : AllOk a) (hb : AllOk b) (la : (canT a).length ≤ 200) (lb : (canT b).length ≤ 200) (l : (canT (jT op a b)).length ≤ 200) :
    buildF ⟨op, 0, 0, 0, 0, 0⟩ [canT a, canT b] = canT (jT op a b) := by
  have e1 := can_ok9 ha la
  have e2 := can_ok9 hb lb
  have t1 : treeOf (canT a) = a := e1.2.1
  have t2 : treeOf (canT b) = b := e2.2.1
  rcases h with rfl | rfl
  · rw [build_bin (by decide) ⟨.inr (.inr (.inr rfl)), .inr rfl, .inr rfl⟩ (by decide) rfl (by decide) (by decide) e1.1 e2.1, t1, t2]
    exact if_neg (by show ¬ 200 < (canT (jT 5 a b)).length; omega)
  · rw [build_bin (by decide) ⟨.inr (.inr (.inr rfl)), .inr rfl, .inr rfl⟩ (by decide) rfl (by decide) (by decide) e1.1 e2.1, t1, t2]
    exact if_neg (by show ¬ 200 < (canT (jT 6 a b)).length; omega)
theorem not_can {a : Tr} (ha : AllOk a) (la : (canT a).length ≤ 200) (l : (canT (notT a)).length ≤ 200) : buildF ⟨4, 0, 0, 0, 0, 0⟩ [canT a] = canT (notT a) := by
  have e1 := can_ok9 ha la
  have t1 : treeOf (canT a) = a := e1.2.1
  rw [build_un (by decide) ⟨.inr (.inr (.inr rfl)), .inr rfl, .inr rfl⟩ (by decide) rfl (by decide) (by decide) e1.1, t1]
  exact if_neg (by show ¬ 200 < (canT (notT a)).length; omega)
theorem leafs_can : buildF ⟨1, 0, 0, 0, 0, 0⟩ [] = canT (cT 1) ∧ buildF ⟨2, 0, 0, 0, 0, 0⟩ [] = canT (cT 2) ∧ buildF ⟨3, 0, 0, 0, 0, 0⟩ [] = canT (factN 0) ∧ buildF ⟨3, 1, 0, 0, 0, 0⟩ [] = canT (factN 1) ∧ buildF ⟨3, 2, 0, 0, 0, 0⟩ [] = canT (factN 2) ∧ buildF ⟨3, 3, 0, 0, 0, 0⟩ [] = canT (factN 3) ∧ buildF ⟨3, 4, 0, 0, 0, 0⟩ [] = canT (factN 4) ∧ buildF ⟨3, 5, 0, 0, 0, 0⟩ [] = canT (factN 5) := by decide +kernel
theorem fact_len : (canT (factN 0)).length = 1 ∧ (canT (factN 1)).length = 1 ∧ (canT (factN 2)).length = 1 ∧ (canT (factN 3)).length = 1 ∧ (canT (factN 4)).length = 1 ∧ (canT (factN 5)).length = 1 ∧ (canT (notT (factN 0))).length = 2 ∧ (canT (notT (factN 1))).length = 2 ∧ (canT (notT (factN 2))).length = 2 ∧ (canT (notT (factN 3))).length = 2 ∧ (canT (notT (factN 4))).length = 2 ∧ (canT (notT (factN 5))).length = 2 := by decide +kernel
theorem gTrue (w : World) : Calls Tryd.prog 40 #[] w (GivesT (cT 1) w) := by
  have h := pTrue_any w
  rw [leafs_can.1] at h
  exact h
theorem gFalse (w : World) : Calls Tryd.prog 39 #[] w (GivesT (cT 2) w) := by
  have h := pFalse_any w
  rw [leafs_can.2.1] at h
  exact h
theorem gNot {a : Tr} (ha : AllOk a) (la : (canT a).length ≤ 200) (l : (canT (notT a)).length ≤ 200) (A : Option Addr) (c : Nat) (w : World) (hR : Reads w w.heap.size 6 A (canT a).length (nds (canT a))) :
    Calls Tryd.prog 41 #[.slice A (canT a).length c] w (GivesT (notT a) w) := by
  have h := pNot_any (canT a) A (canT a).length c w hR (by unfold maxLen; omega)
  rw [not_can ha la l] at h
  exact h
theorem gAnd {a b : Tr} (ha : AllOk a) (hb : AllOk b) (la : (canT a).length ≤ 200) (lb : (canT b).length ≤ 200) (l : (canT (jT 5 a b)).length ≤ 200) (A B : Option Addr) (c d : Nat) (w : World)
    (hR : Reads w w.heap.size 6 A (canT a).length (nds (canT a))) (hR2 : Reads w w.heap.size 6 B (canT b).length (nds (canT b))) :
    Calls Tryd.prog 19 #[.slice A (canT a).length c, .slice B (canT b).length d] w (GivesT (jT 5 a b) w) := by
  have h := pAnd_any (canT a) A (canT a).length c (canT b) B (canT b).length d w hR (by unfold maxLen; omega) hR2 (by unfold maxLen; omega)
  rw [bin_can (.inl rfl) ha hb la lb l] at h
  exact h
theorem gOr {a b : Tr} (ha : AllOk a) (hb : AllOk b) (la : (canT a).length ≤ 200) (lb : (canT b).length ≤ 200) (l : (canT (jT 6 a b)).length ≤ 200) (A B : Option Addr) (c d : Nat) (w : World)
    (hR : Reads w w.heap.size 6 A (canT a).length (nds (canT a))) (hR2 : Reads w w.heap.size 6 B (canT b).length (nds (canT b))) :
    Calls Tryd.prog 42 #[.slice A (canT a).length c, .slice B (canT b).length d] w (GivesT (jT 6 a b) w) := by
  have h := pOr_any (canT a) A (canT a).length c (canT b) B (canT b).length d w hR (by unfold maxLen; omega) hR2 (by unfold maxLen; omega)
  rw [bin_can (.inr rfl) ha hb la lb l] at h
  exact h
theorem part_len {op : Int} {a b : Tr} (h : AllOk (jT op a b)) (l : (canT (jT op a b)).length ≤ 111) : (canT a).length ≤ 111 ∧ (canT b).length ≤ 111 := by
  have h1 : subT a (jT op a b) := .inr (.inl (subT_refl a))
  have h2 : subT b (jT op a b) := .inr (.inr (subT_refl b))
  constructor
  · rcases canT_len h.1 h1 with e | e
    · rw [e]; exact l
    · omega
  · rcases canT_len h.1 h2 with e | e
    · rw [e]; exact l
    · omega
theorem below_drewN0 {w w' : World} {q : Nat} (h : Below (w.drewN q).heap.size (w.drewN q) w') : Below w.heap.size w w' := (below_drewN (Below.refl _ w) q).trans h
theorem expand_0 (t : Nat) (ht : t < 2 ^ 2 ^ 0) (w : World) : Calls Tryd.prog 14 #[.int .u64 (t : Int), .int .i64 0] w (GivesT (expT 0 t) w) := by
  have hF := Lib.hid (fun W => full_any 0 (by omega) W)
  have h1 : fullN 0 = 1 := by decide
  rw [h1] at hF
  have hc : t = 0 ∨ t = 1 := by have : t < 2 := ht; omega
  rcases hc with rfl | rfl
  · have H := Lib.hid (gFalse w)
    rw [show expT 0 0 = cT 2 from rfl]
    go_enter Tryd.func14, Tryd.ntmps14
    go_wp2_with fail
    refine (H.out).mono ?_
    rintro e w2 ⟨A, c, rfl, hr, hb⟩
    have HR := Lib.hid (And.intro hr hb)
    clear hr hb
    go_wp2
    go_ret
    exact ⟨A, c, rfl, HR.out.1, HR.out.2⟩
  · have H := Lib.hid (fun W => gTrue W)
    rw [show expT 0 1 = cT 1 from rfl]
    go_enter Tryd.func14, Tryd.ntmps14
    go_wp2_with fail
    refine (hF.out _).mono ?_
    rintro e w2 ⟨rfl, rfl⟩
    go_wp2_with fail
    refine (H.out _).mono ?_
    rintro e w2 ⟨A, c, rfl, hr, hb⟩
    have HR := Lib.hid (And.intro hr hb)
    clear hr hb
    go_wp2
    go_ret
    exact ⟨A, c, rfl, HR.out.1, HR.out.2⟩
set_option maxHeartbeats 2000000 in
theorem expand_1 (t : Nat) (ht : t < 2 ^ 2 ^ 1) (w : World) : Calls Tryd.prog 14 #[.int .u64 (t : Int), .int .i64 1] w (GivesT (expT 1 t) w) := by
  have hF := Lib.hid (fun W => full_any 1 (by omega) W)
  have hFn := Lib.hid (fun W => full_any 0 (by omega) W)
  have HT := Lib.hid (fun W => gTrue W)
  have HZ := Lib.hid (fun W => gFalse W)
  have HFA : Hid (∀ W, Calls Tryd.prog 15 #[.int .i64 0] W (GivesT (factN 0) W)) := Lib.hid (fun W => by
    have h := pFact_any 0 W
    rw [leafs_can.2.2.1] at h
    exact h)
  have hexp : expT 1 t = if t = 0 then cT 2 else if t = fullN 1 then cT 1 else if lowN 0 t = highN 0 t then expT 0 (highN 0 t) else jT 6 (withT 0 (lowN 0 t) (highN 0 t) (expT 0 (highN 0 t))) (withoutT 0 (lowN 0 t) (highN 0 t) (expT 0 (lowN 0 t))) := rfl
  have ht64 : t < 18446744073709551616 := Nat.lt_of_lt_of_le ht (by decide)
  by_cases h0 : t = 0
  · subst h0
    rw [if_pos rfl] at hexp
    rw [hexp]
    clear hexp
    go_enter Tryd.func14, Tryd.ntmps14
    go_wp2_with fail
    refine (HZ.out _).mono ?_
    rintro e w2 ⟨A, c, rfl, hr, hb⟩
    have HR := Lib.hid (And.intro hr hb)
    clear hr hb
    go_wp2
    go_ret
    exact ⟨A, c, rfl, HR.out.1, HR.out.2⟩
  rw [if_neg h0] at hexp
  have d0 : ((t : Int) == 0) = false := by rw [beq_eq_false_iff_ne]; omega
  by_cases h1 : t = fullN 1
  · rw [if_pos h1] at hexp
    rw [hexp]
    have d1 : ((t : Int) == ((fullN 1 : Nat) : Int)) = true := by rw [h1]; simp
    clear hexp h1 h0
    generalize fullN 1 = fu at *
    go_enter Tryd.func14, Tryd.ntmps14
    go_wp2_with fail
    refine (hF.out _).mono ?_
    rintro e w2 ⟨rfl, rfl⟩
    go_wp2_with fail
    refine (HT.out _).mono ?_
    rintro e w2 ⟨A, c, rfl, hr, hb⟩
    have HR := Lib.hid (And.intro hr hb)
    clear hr hb
    go_wp2
    go_ret
    exact ⟨A, c, rfl, HR.out.1, HR.out.2⟩
  rw [if_neg h1] at hexp
  have d1 : ((t : Int) == ((fullN 1 : Nat) : Int)) = false := by rw [beq_eq_false_iff_ne]; omega
  have hlo := low_lt 0 t
  have hhi := high_lt (n := 0) ht
  have eL : bits .and .u64 (t : Int) ((fullN 0 : Nat) : Int) = ((lowN 0 t : Nat) : Int) := u64_and_nat t (fullN 0) ht64 (by decide)
  have eH : (t : Int) / 2 = ((highN 0 t : Nat) : Int) := by
    unfold highN
    rw [Nat.shiftRight_eq_div_pow]
    rfl
  have aX := exp_all 0 (highN 0 t) (by omega)
  have lX := exp_len (n := 0) (by omega) hhi
  have aY := exp_all 0 (lowN 0 t) (by omega)
  have lY := exp_len (n := 0) (by omega) hlo
  have aJ := exp_all 1 t (by omega)
  have lJ := exp_len (n := 1) (by omega) ht
  have IHX := Lib.hid (fun W => expand_0 (highN 0 t) hhi W)
  have IHY := Lib.hid (fun W => expand_0 (lowN 0 t) hlo W)
  have nH := notSub9 (x := highN 0 t) (y := lowN 0 t) (Nat.lt_of_lt_of_le hhi (by decide))
  have nL := notSub9 (x := lowN 0 t) (y := highN 0 t) (Nat.lt_of_lt_of_le hlo (by decide))
  clear h0 h1 hlo hhi ht ht64
  generalize highN 0 t = hi at *
  generalize lowN 0 t = lo at *
  generalize fullN 1 = fu at *
  generalize fullN 0 = fv at *
  generalize expT 0 hi = X at *
  generalize expT 0 lo = Y at *
  by_cases he : lo = hi
  · rw [if_pos he] at hexp
    rw [hexp]
    have e1 : ((lo : Int) == (hi : Int)) = true := by rw [he]; simp
    clear hexp he aX aY aJ nH nL lX lY lJ HFA HT HZ
    go_enter Tryd.func14, Tryd.ntmps14
    go_wp2_with fail
    refine (hF.out _).mono ?_
    rintro e w2 ⟨rfl, rfl⟩
    go_wp2
    go_quiet (first | (go_at_call 34; exact quiet_same (hFn.out _)))
    go_wp2_with fail
    refine (IHY.out _).mono ?_
    rintro e w3 ⟨A1, c1, rfl, hr, hb⟩
    have HR1 := Lib.hid hr
    have HB1 := Lib.hid (below_drewN0 hb)
    clear hr hb
    go_wp2_with fail
    refine (IHX.out _).mono ?_
    rintro e w4 ⟨A2, c2, rfl, hr, hb⟩
    have HR2 := Lib.hid hr
    have HR1 := Lib.hid ((HR1.out.below hb).more hb.size)
    have HB2 := Lib.hid (HB1.out.trans (hb.mono HB1.out.size))
    clear hr hb
    go_wp2
    go_ret
    exact ⟨A2, c2, rfl, HR2.out, HB2.out⟩
  rw [if_neg he] at hexp
  have e1 : ((lo : Int) == (hi : Int)) = false := by rw [beq_eq_false_iff_ne]; omega
  rw [hexp] at aJ lJ ⊢
  obtain ⟨aW, aO⟩ := all_parts aJ
  obtain ⟨lW, lO⟩ := part_len aJ lJ
  have AF := Lib.hid (fact_all (i := 0) (by omega))
  have LF : Hid ((canT (factN 0)).length ≤ 200) := Lib.hid (by rw [fact_len.1]; decide)
  have LN : Hid ((canT (notT (factN 0))).length ≤ 200) := Lib.hid (by rw [fact_len.2.2.2.2.2.2.1]; decide)
  clear hexp he
  by_cases hs1 : subB hi lo
  · by_cases hs2 : subB lo hi
    · skip
      have eW : withT 0 lo hi X = X := if_pos hs1
      have eO : withoutT 0 lo hi Y = Y := if_pos hs2
      rw [eW] at aW lW aJ lJ ⊢
      rw [eO] at aO lO aJ lJ ⊢
      rw [decide_eq_true hs1, Bool.not_true] at nH
      rw [decide_eq_true hs2, Bool.not_true] at nL
      have HOR := Lib.hid (fun A B c d W h h2 => gOr aW aO (by omega) (by omega) (by omega) A B c d W h h2)
      clear eW eO hs1 hs2 aW aO aJ lJ lW lO aX aY lX lY HT HZ
      go_enter Tryd.func14, Tryd.ntmps14
      go_wp2_with fail
      refine (hF.out _).mono ?_
      rintro e w2 ⟨rfl, rfl⟩
      go_wp2
      go_quiet (first | (go_at_call 34; exact quiet_same (hFn.out _)))
      go_wp2_with fail
      refine (IHY.out _).mono ?_
      rintro e w3 ⟨A1, c1, rfl, hr, hb⟩
      have HR1 := Lib.hid hr
      have HB1 := Lib.hid (below_drewN0 hb)
      clear hr hb
      go_wp2_with fail
      refine (IHX.out _).mono ?_
      rintro e w4 ⟨A2, c2, rfl, hr, hb⟩
      have HR2 := Lib.hid hr
      have HR1 := Lib.hid ((HR1.out.below hb).more hb.size)
      have HB2 := Lib.hid (HB1.out.trans (hb.mono HB1.out.size))
      clear hr hb
      go_wp2_with fail
      refine (HFA.out _).mono ?_
      rintro e w5 ⟨A3, c3, rfl, hr, hb⟩
      have HR3 := Lib.hid hr
      have HR1 := Lib.hid ((HR1.out.below hb).more hb.size)
      have HR2 := Lib.hid ((HR2.out.below hb).more hb.size)
      have HB3 := Lib.hid (HB2.out.trans (hb.mono HB2.out.size))
      clear hr hb
      go_wp2_with fail
      refine (HOR.out A2 A1 c2 c1 _ HR2.out HR1.out).mono ?_
      rintro e w9 ⟨A9, c9, rfl, hr, hb⟩
      have HR1 := Lib.hid ((HR1.out.below hb).more hb.size)
      have HR2 := Lib.hid ((HR2.out.below hb).more hb.size)
      have HR3 := Lib.hid ((HR3.out.below hb).more hb.size)
      have HR9 := Lib.hid hr
      have HB9 := Lib.hid (HB3.out.trans (hb.mono HB3.out.size))
      clear hr hb
      go_wp2
      go_ret
      exact ⟨A9, c9, rfl, HR9.out, HB9.out⟩
    · skip
      have eW : withT 0 lo hi X = X := if_pos hs1
      have eO : withoutT 0 lo hi Y = jT 5 (notT (factN 0)) Y := if_neg hs2
      rw [eW] at aW lW aJ lJ ⊢
      rw [eO] at aO lO aJ lJ ⊢
      rw [decide_eq_true hs1, Bool.not_true] at nH
      rw [decide_eq_false hs2, Bool.not_false] at nL
      have HOR := Lib.hid (fun A B c d W h h2 => gOr aW aO (by omega) (by omega) (by omega) A B c d W h h2)
      have HNO := Lib.hid (fun A c W h => gNot AF.out LF.out LN.out A c W h)
      have HAO := Lib.hid (fun A B c d W h h2 => gAnd (all_parts aO).1 aY LN.out (by omega) (by omega) A B c d W h h2)
      clear eW eO hs1 hs2 aW aO aJ lJ lW lO aX aY lX lY HT HZ
      go_enter Tryd.func14, Tryd.ntmps14
      go_wp2_with fail
      refine (hF.out _).mono ?_
      rintro e w2 ⟨rfl, rfl⟩
      go_wp2
      go_quiet (first | (go_at_call 34; exact quiet_same (hFn.out _)))
      go_wp2_with fail
      refine (IHY.out _).mono ?_
      rintro e w3 ⟨A1, c1, rfl, hr, hb⟩
      have HR1 := Lib.hid hr
      have HB1 := Lib.hid (below_drewN0 hb)
      clear hr hb
      go_wp2_with fail
      refine (IHX.out _).mono ?_
      rintro e w4 ⟨A2, c2, rfl, hr, hb⟩
      have HR2 := Lib.hid hr
      have HR1 := Lib.hid ((HR1.out.below hb).more hb.size)
      have HB2 := Lib.hid (HB1.out.trans (hb.mono HB1.out.size))
      clear hr hb
      go_wp2_with fail
      refine (HFA.out _).mono ?_
      rintro e w5 ⟨A3, c3, rfl, hr, hb⟩
      have HR3 := Lib.hid hr
      have HR1 := Lib.hid ((HR1.out.below hb).more hb.size)
      have HR2 := Lib.hid ((HR2.out.below hb).more hb.size)
      have HB3 := Lib.hid (HB2.out.trans (hb.mono HB2.out.size))
      clear hr hb
      go_wp2_with fail
      refine (HNO.out A3 c3 _ HR3.out).mono ?_
      rintro e w7 ⟨A7, c7, rfl, hr, hb⟩
      have HR1 := Lib.hid ((HR1.out.below hb).more hb.size)
      have HR2 := Lib.hid ((HR2.out.below hb).more hb.size)
      have HR3 := Lib.hid ((HR3.out.below hb).more hb.size)
      have HR7 := Lib.hid hr
      have HB7 := Lib.hid (HB3.out.trans (hb.mono HB3.out.size))
      clear hr hb
      go_wp2_with fail
      refine (HAO.out A7 A1 c7 c1 _ HR7.out HR1.out).mono ?_
      rintro e w8 ⟨A8, c8, rfl, hr, hb⟩
      have HR1 := Lib.hid ((HR1.out.below hb).more hb.size)
      have HR2 := Lib.hid ((HR2.out.below hb).more hb.size)
      have HR3 := Lib.hid ((HR3.out.below hb).more hb.size)
      have HR7 := Lib.hid ((HR7.out.below hb).more hb.size)
      have HR8 := Lib.hid hr
      have HB8 := Lib.hid (HB7.out.trans (hb.mono HB7.out.size))
      clear hr hb
      go_wp2_with fail
      refine (HOR.out A2 A8 c2 c8 _ HR2.out HR8.out).mono ?_
      rintro e w9 ⟨A9, c9, rfl, hr, hb⟩
      have HR1 := Lib.hid ((HR1.out.below hb).more hb.size)
      have HR2 := Lib.hid ((HR2.out.below hb).more hb.size)
      have HR3 := Lib.hid ((HR3.out.below hb).more hb.size)
      have HR7 := Lib.hid ((HR7.out.below hb).more hb.size)
      have HR8 := Lib.hid ((HR8.out.below hb).more hb.size)
      have HR9 := Lib.hid hr
      have HB9 := Lib.hid (HB8.out.trans (hb.mono HB8.out.size))
      clear hr hb
      go_wp2
      go_ret
      exact ⟨A9, c9, rfl, HR9.out, HB9.out⟩
  · by_cases hs2 : subB lo hi
    · skip
      have eW : withT 0 lo hi X = jT 5 (factN 0) X := if_neg hs1
      have eO : withoutT 0 lo hi Y = Y := if_pos hs2
      rw [eW] at aW lW aJ lJ ⊢
      rw [eO] at aO lO aJ lJ ⊢
      rw [decide_eq_false hs1, Bool.not_false] at nH
      rw [decide_eq_true hs2, Bool.not_true] at nL
      have HOR := Lib.hid (fun A B c d W h h2 => gOr aW aO (by omega) (by omega) (by omega) A B c d W h h2)
      have HAW := Lib.hid (fun A B c d W h h2 => gAnd AF.out aX LF.out (by omega) (by omega) A B c d W h h2)
      clear eW eO hs1 hs2 aW aO aJ lJ lW lO aX aY lX lY HT HZ
      go_enter Tryd.func14, Tryd.ntmps14
      go_wp2_with fail
      refine (hF.out _).mono ?_
      rintro e w2 ⟨rfl, rfl⟩
      go_wp2
      go_quiet (first | (go_at_call 34; exact quiet_same (hFn.out _)))
      go_wp2_with fail
      refine (IHY.out _).mono ?_
      rintro e w3 ⟨A1, c1, rfl, hr, hb⟩
      have HR1 := Lib.hid hr
      have HB1 := Lib.hid (below_drewN0 hb)
      clear hr hb
      go_wp2_with fail
      refine (IHX.out _).mono ?_
      rintro e w4 ⟨A2, c2, rfl, hr, hb⟩
      have HR2 := Lib.hid hr
      have HR1 := Lib.hid ((HR1.out.below hb).more hb.size)
      have HB2 := Lib.hid (HB1.out.trans (hb.mono HB1.out.size))
      clear hr hb
      go_wp2_with fail
      refine (HFA.out _).mono ?_
      rintro e w5 ⟨A3, c3, rfl, hr, hb⟩
      have HR3 := Lib.hid hr
      have HR1 := Lib.hid ((HR1.out.below hb).more hb.size)
      have HR2 := Lib.hid ((HR2.out.below hb).more hb.size)
      have HB3 := Lib.hid (HB2.out.trans (hb.mono HB2.out.size))
      clear hr hb
      go_wp2_with fail
      refine (HAW.out A3 A2 c3 c2 _ HR3.out HR2.out).mono ?_
      rintro e w6 ⟨A6, c6, rfl, hr, hb⟩
      have HR1 := Lib.hid ((HR1.out.below hb).more hb.size)
      have HR2 := Lib.hid ((HR2.out.below hb).more hb.size)
      have HR3 := Lib.hid ((HR3.out.below hb).more hb.size)
      have HR6 := Lib.hid hr
      have HB6 := Lib.hid (HB3.out.trans (hb.mono HB3.out.size))
      clear hr hb
      go_wp2_with fail
      refine (HOR.out A6 A1 c6 c1 _ HR6.out HR1.out).mono ?_
      rintro e w9 ⟨A9, c9, rfl, hr, hb⟩
      have HR1 := Lib.hid ((HR1.out.below hb).more hb.size)
      have HR2 := Lib.hid ((HR2.out.below hb).more hb.size)
      have HR3 := Lib.hid ((HR3.out.below hb).more hb.size)
      have HR6 := Lib.hid ((HR6.out.below hb).more hb.size)
      have HR9 := Lib.hid hr
      have HB9 := Lib.hid (HB6.out.trans (hb.mono HB6.out.size))
      clear hr hb
      go_wp2
      go_ret
      exact ⟨A9, c9, rfl, HR9.out, HB9.out⟩
    · skip
      have eW : withT 0 lo hi X = jT 5 (factN 0) X := if_neg hs1
      have eO : withoutT 0 lo hi Y = jT 5 (notT (factN 0)) Y := if_neg hs2
      rw [eW] at aW lW aJ lJ ⊢
      rw [eO] at aO lO aJ lJ ⊢
      rw [decide_eq_false hs1, Bool.not_false] at nH
      rw [decide_eq_false hs2, Bool.not_false] at nL
      have HOR := Lib.hid (fun A B c d W h h2 => gOr aW aO (by omega) (by omega) (by omega) A B c d W h h2)
      have HAW := Lib.hid (fun A B c d W h h2 => gAnd AF.out aX LF.out (by omega) (by omega) A B c d W h h2)
      have HNO := Lib.hid (fun A c W h => gNot AF.out LF.out LN.out A c W h)
      have HAO := Lib.hid (fun A B c d W h h2 => gAnd (all_parts aO).1 aY LN.out (by omega) (by omega) A B c d W h h2)
      clear eW eO hs1 hs2 aW aO aJ lJ lW lO aX aY lX lY HT HZ
      go_enter Tryd.func14, Tryd.ntmps14
      go_wp2_with fail
      refine (hF.out _).mono ?_
      rintro e w2 ⟨rfl, rfl⟩
      go_wp2
      go_quiet (first | (go_at_call 34; exact quiet_same (hFn.out _)))
      go_wp2_with fail
      refine (IHY.out _).mono ?_
      rintro e w3 ⟨A1, c1, rfl, hr, hb⟩
      have HR1 := Lib.hid hr
      have HB1 := Lib.hid (below_drewN0 hb)
      clear hr hb
      go_wp2_with fail
      refine (IHX.out _).mono ?_
      rintro e w4 ⟨A2, c2, rfl, hr, hb⟩
      have HR2 := Lib.hid hr
      have HR1 := Lib.hid ((HR1.out.below hb).more hb.size)
      have HB2 := Lib.hid (HB1.out.trans (hb.mono HB1.out.size))
      clear hr hb
      go_wp2_with fail
      refine (HFA.out _).mono ?_
      rintro e w5 ⟨A3, c3, rfl, hr, hb⟩
      have HR3 := Lib.hid hr
      have HR1 := Lib.hid ((HR1.out.below hb).more hb.size)
      have HR2 := Lib.hid ((HR2.out.below hb).more hb.size)
      have HB3 := Lib.hid (HB2.out.trans (hb.mono HB2.out.size))
      clear hr hb
      go_wp2_with fail
      refine (HAW.out A3 A2 c3 c2 _ HR3.out HR2.out).mono ?_
      rintro e w6 ⟨A6, c6, rfl, hr, hb⟩
      have HR1 := Lib.hid ((HR1.out.below hb).more hb.size)
      have HR2 := Lib.hid ((HR2.out.below hb).more hb.size)
      have HR3 := Lib.hid ((HR3.out.below hb).more hb.size)
      have HR6 := Lib.hid hr
      have HB6 := Lib.hid (HB3.out.trans (hb.mono HB3.out.size))
      clear hr hb
      go_wp2_with fail
      refine (HNO.out A3 c3 _ HR3.out).mono ?_
      rintro e w7 ⟨A7, c7, rfl, hr, hb⟩
      have HR1 := Lib.hid ((HR1.out.below hb).more hb.size)
      have HR2 := Lib.hid ((HR2.out.below hb).more hb.size)
      have HR3 := Lib.hid ((HR3.out.below hb).more hb.size)
      have HR6 := Lib.hid ((HR6.out.below hb).more hb.size)
      have HR7 := Lib.hid hr
      have HB7 := Lib.hid (HB6.out.trans (hb.mono HB6.out.size))
      clear hr hb
      go_wp2_with fail
      refine (HAO.out A7 A1 c7 c1 _ HR7.out HR1.out).mono ?_
      rintro e w8 ⟨A8, c8, rfl, hr, hb⟩
      have HR1 := Lib.hid ((HR1.out.below hb).more hb.size)
      have HR2 := Lib.hid ((HR2.out.below hb).more hb.size)
      have HR3 := Lib.hid ((HR3.out.below hb).more hb.size)
      have HR6 := Lib.hid ((HR6.out.below hb).more hb.size)
      have HR7 := Lib.hid ((HR7.out.below hb).more hb.size)
      have HR8 := Lib.hid hr
      have HB8 := Lib.hid (HB7.out.trans (hb.mono HB7.out.size))
      clear hr hb
      go_wp2_with fail
      refine (HOR.out A6 A8 c6 c8 _ HR6.out HR8.out).mono ?_
      rintro e w9 ⟨A9, c9, rfl, hr, hb⟩
      have HR1 := Lib.hid ((HR1.out.below hb).more hb.size)
      have HR2 := Lib.hid ((HR2.out.below hb).more hb.size)
      have HR3 := Lib.hid ((HR3.out.below hb).more hb.size)
      have HR6 := Lib.hid ((HR6.out.below hb).more hb.size)
      have HR7 := Lib.hid ((HR7.out.below hb).more hb.size)
      have HR8 := Lib.hid ((HR8.out.below hb).more hb.size)
      have HR9 := Lib.hid hr
      have HB9 := Lib.hid (HB8.out.trans (hb.mono HB8.out.size))
      clear hr hb
      go_wp2
      go_ret
      exact ⟨A9, c9, rfl, HR9.out, HB9.out⟩
set_option maxHeartbeats 2000000 in
theorem expand_2 (t : Nat) (ht : t < 2 ^ 2 ^ 2) (w : World) : Calls Tryd.prog 14 #[.int .u64 (t : Int), .int .i64 2] w (GivesT (expT 2 t) w) := by
  have hF := Lib.hid (fun W => full_any 2 (by omega) W)
  have hFn := Lib.hid (fun W => full_any 1 (by omega) W)
  have HT := Lib.hid (fun W => gTrue W)
  have HZ := Lib.hid (fun W => gFalse W)
  have HFA : Hid (∀ W, Calls Tryd.prog 15 #[.int .i64 1] W (GivesT (factN 1) W)) := Lib.hid (fun W => by
    have h := pFact_any 1 W
    rw [leafs_can.2.2.2.1] at h
    exact h)
  have hexp : expT 2 t = if t = 0 then cT 2 else if t = fullN 2 then cT 1 else if lowN 1 t = highN 1 t then expT 1 (highN 1 t) else jT 6 (withT 1 (lowN 1 t) (highN 1 t) (expT 1 (highN 1 t))) (withoutT 1 (lowN 1 t) (highN 1 t) (expT 1 (lowN 1 t))) := rfl
  have ht64 : t < 18446744073709551616 := Nat.lt_of_lt_of_le ht (by decide)
  by_cases h0 : t = 0
  · subst h0
    rw [if_pos rfl] at hexp
    rw [hexp]
    clear hexp
    go_enter Tryd.func14, Tryd.ntmps14
    go_wp2_with fail
    refine (HZ.out _).mono ?_
    rintro e w2 ⟨A, c, rfl, hr, hb⟩
    have HR := Lib.hid (And.intro hr hb)
    clear hr hb
    go_wp2
    go_ret
    exact ⟨A, c, rfl, HR.out.1, HR.out.2⟩
  rw [if_neg h0] at hexp
  have d0 : ((t : Int) == 0) = false := by rw [beq_eq_false_iff_ne]; omega
  by_cases h1 : t = fullN 2
  · rw [if_pos h1] at hexp
    rw [hexp]
    have d1 : ((t : Int) == ((fullN 2 : Nat) : Int)) = true := by rw [h1]; simp
    clear hexp h1 h0
    generalize fullN 2 = fu at *
    go_enter Tryd.func14, Tryd.ntmps14
    go_wp2_with fail
    refine (hF.out _).mono ?_
    rintro e w2 ⟨rfl, rfl⟩
    go_wp2_with fail
    refine (HT.out _).mono ?_
    rintro e w2 ⟨A, c, rfl, hr, hb⟩
    have HR := Lib.hid (And.intro hr hb)
    clear hr hb
    go_wp2
    go_ret
    exact ⟨A, c, rfl, HR.out.1, HR.out.2⟩
  rw [if_neg h1] at hexp
  have d1 : ((t : Int) == ((fullN 2 : Nat) : Int)) = false := by rw [beq_eq_false_iff_ne]; omega
  have hlo := low_lt 1 t
  have hhi := high_lt (n := 1) ht
  have eL : bits .and .u64 (t : Int) ((fullN 1 : Nat) : Int) = ((lowN 1 t : Nat) : Int) := u64_and_nat t (fullN 1) ht64 (by decide)
  have eH : (t : Int) / 4 = ((highN 1 t : Nat) : Int) := by
    unfold highN
    rw [Nat.shiftRight_eq_div_pow]
    rfl
  have aX := exp_all 1 (highN 1 t) (by omega)
  have lX := exp_len (n := 1) (by omega) hhi
  have aY := exp_all 1 (lowN 1 t) (by omega)
  have lY := exp_len (n := 1) (by omega) hlo
  have aJ := exp_all 2 t (by omega)
  have lJ := exp_len (n := 2) (by omega) ht
  have IHX := Lib.hid (fun W => expand_1 (highN 1 t) hhi W)
  have IHY := Lib.hid (fun W => expand_1 (lowN 1 t) hlo W)
  have nH := notSub9 (x := highN 1 t) (y := lowN 1 t) (Nat.lt_of_lt_of_le hhi (by decide))
  have nL := notSub9 (x := lowN 1 t) (y := highN 1 t) (Nat.lt_of_lt_of_le hlo (by decide))
  clear h0 h1 hlo hhi ht ht64
  generalize highN 1 t = hi at *
  generalize lowN 1 t = lo at *
  generalize fullN 2 = fu at *
  generalize fullN 1 = fv at *
  generalize expT 1 hi = X at *
  generalize expT 1 lo = Y at *
  by_cases he : lo = hi
  · rw [if_pos he] at hexp
    rw [hexp]
    have e1 : ((lo : Int) == (hi : Int)) = true := by rw [he]; simp
    clear hexp he aX aY aJ nH nL lX lY lJ HFA HT HZ
    go_enter Tryd.func14, Tryd.ntmps14
    go_wp2_with fail
    refine (hF.out _).mono ?_
    rintro e w2 ⟨rfl, rfl⟩
    go_wp2
    go_quiet (first | (go_at_call 34; exact quiet_same (hFn.out _)))
    go_wp2_with fail
    refine (IHY.out _).mono ?_
    rintro e w3 ⟨A1, c1, rfl, hr, hb⟩
    have HR1 := Lib.hid hr
    have HB1 := Lib.hid (below_drewN0 hb)
    clear hr hb
    go_wp2_with fail
    refine (IHX.out _).mono ?_
    rintro e w4 ⟨A2, c2, rfl, hr, hb⟩
    have HR2 := Lib.hid hr
    have HR1 := Lib.hid ((HR1.out.below hb).more hb.size)
    have HB2 := Lib.hid (HB1.out.trans (hb.mono HB1.out.size))
    clear hr hb
    go_wp2
    go_ret
    exact ⟨A2, c2, rfl, HR2.out, HB2.out⟩
  rw [if_neg he] at hexp
  have e1 : ((lo : Int) == (hi : Int)) = false := by rw [beq_eq_false_iff_ne]; omega
  rw [hexp] at aJ lJ ⊢
  obtain ⟨aW, aO⟩ := all_parts aJ
  obtain ⟨lW, lO⟩ := part_len aJ lJ
  have AF := Lib.hid (fact_all (i := 1) (by omega))
  have LF : Hid ((canT (factN 1)).length ≤ 200) := Lib.hid (by rw [fact_len.2.1]; decide)
  have LN : Hid ((canT (notT (factN 1))).length ≤ 200) := Lib.hid (by rw [fact_len.2.2.2.2.2.2.2.1]; decide)
  clear hexp he
  by_cases hs1 : subB hi lo
  · by_cases hs2 : subB lo hi
    · skip
      have eW : withT 1 lo hi X = X := if_pos hs1
      have eO : withoutT 1 lo hi Y = Y := if_pos hs2
      rw [eW] at aW lW aJ lJ ⊢
      rw [eO] at aO lO aJ lJ ⊢
      rw [decide_eq_true hs1, Bool.not_true] at nH
      rw [decide_eq_true hs2, Bool.not_true] at nL
      have HOR := Lib.hid (fun A B c d W h h2 => gOr aW aO (by omega) (by omega) (by omega) A B c d W h h2)
      clear eW eO hs1 hs2 aW aO aJ lJ lW lO aX aY lX lY HT HZ
      go_enter Tryd.func14, Tryd.ntmps14
      go_wp2_with fail
      refine (hF.out _).mono ?_
      rintro e w2 ⟨rfl, rfl⟩
      go_wp2
      go_quiet (first | (go_at_call 34; exact quiet_same (hFn.out _)))
      go_wp2_with fail
      refine (IHY.out _).mono ?_
      rintro e w3 ⟨A1, c1, rfl, hr, hb⟩
      have HR1 := Lib.hid hr
      have HB1 := Lib.hid (below_drewN0 hb)
      clear hr hb
      go_wp2_with fail
      refine (IHX.out _).mono ?_
      rintro e w4 ⟨A2, c2, rfl, hr, hb⟩
      have HR2 := Lib.hid hr
      have HR1 := Lib.hid ((HR1.out.below hb).more hb.size)
      have HB2 := Lib.hid (HB1.out.trans (hb.mono HB1.out.size))
      clear hr hb
      go_wp2_with fail
      refine (HFA.out _).mono ?_
      rintro e w5 ⟨A3, c3, rfl, hr, hb⟩
      have HR3 := Lib.hid hr
      have HR1 := Lib.hid ((HR1.out.below hb).more hb.size)
      have HR2 := Lib.hid ((HR2.out.below hb).more hb.size)
      have HB3 := Lib.hid (HB2.out.trans (hb.mono HB2.out.size))
      clear hr hb
      go_wp2_with fail
      refine (HOR.out A2 A1 c2 c1 _ HR2.out HR1.out).mono ?_
      rintro e w9 ⟨A9, c9, rfl, hr, hb⟩
      have HR1 := Lib.hid ((HR1.out.below hb).more hb.size)
      have HR2 := Lib.hid ((HR2.out.below hb).more hb.size)
      have HR3 := Lib.hid ((HR3.out.below hb).more hb.size)
      have HR9 := Lib.hid hr
      have HB9 := Lib.hid (HB3.out.trans (hb.mono HB3.out.size))
      clear hr hb
      go_wp2
      go_ret
      exact ⟨A9, c9, rfl, HR9.out, HB9.out⟩
    · skip
      have eW : withT 1 lo hi X = X := if_pos hs1
      have eO : withoutT 1 lo hi Y = jT 5 (notT (factN 1)) Y := if_neg hs2
      rw [eW] at aW lW aJ lJ ⊢
      rw [eO] at aO lO aJ lJ ⊢
      rw [decide_eq_true hs1, Bool.not_true] at nH
      rw [decide_eq_false hs2, Bool.not_false] at nL
      have HOR := Lib.hid (fun A B c d W h h2 => gOr aW aO (by omega) (by omega) (by omega) A B c d W h h2)
      have HNO := Lib.hid (fun A c W h => gNot AF.out LF.out LN.out A c W h)
      have HAO := Lib.hid (fun A B c d W h h2 => gAnd (all_parts aO).1 aY LN.out (by omega) (by omega) A B c d W h h2)
      clear eW eO hs1 hs2 aW aO aJ lJ lW lO aX aY lX lY HT HZ
      go_enter Tryd.func14, Tryd.ntmps14
      go_wp2_with fail
      refine (hF.out _).mono ?_
      rintro e w2 ⟨rfl, rfl⟩
      go_wp2
      go_quiet (first | (go_at_call 34; exact quiet_same (hFn.out _)))
      go_wp2_with fail
      refine (IHY.out _).mono ?_
      rintro e w3 ⟨A1, c1, rfl, hr, hb⟩
      have HR1 := Lib.hid hr
      have HB1 := Lib.hid (below_drewN0 hb)
      clear hr hb
      go_wp2_with fail
      refine (IHX.out _).mono ?_
      rintro e w4 ⟨A2, c2, rfl, hr, hb⟩
      have HR2 := Lib.hid hr
      have HR1 := Lib.hid ((HR1.out.below hb).more hb.size)
      have HB2 := Lib.hid (HB1.out.trans (hb.mono HB1.out.size))
      clear hr hb
      go_wp2_with fail
      refine (HFA.out _).mono ?_
      rintro e w5 ⟨A3, c3, rfl, hr, hb⟩
      have HR3 := Lib.hid hr
      have HR1 := Lib.hid ((HR1.out.below hb).more hb.size)
      have HR2 := Lib.hid ((HR2.out.below hb).more hb.size)
      have HB3 := Lib.hid (HB2.out.trans (hb.mono HB2.out.size))
      clear hr hb
      go_wp2_with fail
      refine (HNO.out A3 c3 _ HR3.out).mono ?_
      rintro e w7 ⟨A7, c7, rfl, hr, hb⟩
      have HR1 := Lib.hid ((HR1.out.below hb).more hb.size)
      have HR2 := Lib.hid ((HR2.out.below hb).more hb.size)
      have HR3 := Lib.hid ((HR3.out.below hb).more hb.size)
      have HR7 := Lib.hid hr
      have HB7 := Lib.hid (HB3.out.trans (hb.mono HB3.out.size))
      clear hr hb
      go_wp2_with fail
      refine (HAO.out A7 A1 c7 c1 _ HR7.out HR1.out).mono ?_
      rintro e w8 ⟨A8, c8, rfl, hr, hb⟩
      have HR1 := Lib.hid ((HR1.out.below hb).more hb.size)
      have HR2 := Lib.hid ((HR2.out.below hb).more hb.size)
      have HR3 := Lib.hid ((HR3.out.below hb).more hb.size)
      have HR7 := Lib.hid ((HR7.out.below hb).more hb.size)
      have HR8 := Lib.hid hr
      have HB8 := Lib.hid (HB7.out.trans (hb.mono HB7.out.size))
      clear hr hb
      go_wp2_with fail
      refine (HOR.out A2 A8 c2 c8 _ HR2.out HR8.out).mono ?_
      rintro e w9 ⟨A9, c9, rfl, hr, hb⟩
      have HR1 := Lib.hid ((HR1.out.below hb).more hb.size)
      have HR2 := Lib.hid ((HR2.out.below hb).more hb.size)
      have HR3 := Lib.hid ((HR3.out.below hb).more hb.size)
      have HR7 := Lib.hid ((HR7.out.below hb).more hb.size)
      have HR8 := Lib.hid ((HR8.out.below hb).more hb.size)
      have HR9 := Lib.hid hr
      have HB9 := Lib.hid (HB8.out.trans (hb.mono HB8.out.size))
      clear hr hb
      go_wp2
      go_ret
      exact ⟨A9, c9, rfl, HR9.out, HB9.out⟩
  · by_cases hs2 : subB lo hi
    · skip
      have eW : withT 1 lo hi X = jT 5 (factN 1) X := if_neg hs1
      have eO : withoutT 1 lo hi Y = Y := if_pos hs2
      rw [eW] at aW lW aJ lJ ⊢
      rw [eO] at aO lO aJ lJ ⊢
      rw [decide_eq_false hs1, Bool.not_false] at nH
      rw [decide_eq_true hs2, Bool.not_true] at nL
      have HOR := Lib.hid (fun A B c d W h h2 => gOr aW aO (by omega) (by omega) (by omega) A B c d W h h2)
      have HAW := Lib.hid (fun A B c d W h h2 => gAnd AF.out aX LF.out (by omega) (by omega) A B c d W h h2)
      clear eW eO hs1 hs2 aW aO aJ lJ lW lO aX aY lX lY HT HZ
      go_enter Tryd.func14, Tryd.ntmps14
      go_wp2_with fail
      refine (hF.out _).mono ?_
      rintro e w2 ⟨rfl, rfl⟩
      go_wp2
      go_quiet (first | (go_at_call 34; exact quiet_same (hFn.out _)))
      go_wp2_with fail
      refine (IHY.out _).mono ?_
      rintro e w3 ⟨A1, c1, rfl, hr, hb⟩
      have HR1 := Lib.hid hr
      have HB1 := Lib.hid (below_drewN0 hb)
      clear hr hb
      go_wp2_with fail
      refine (IHX.out _).mono ?_
      rintro e w4 ⟨A2, c2, rfl, hr, hb⟩
      have HR2 := Lib.hid hr
      have HR1 := Lib.hid ((HR1.out.below hb).more hb.size)
      have HB2 := Lib.hid (HB1.out.trans (hb.mono HB1.out.size))
      clear hr hb
      go_wp2_with fail
      refine (HFA.out _).mono ?_
      rintro e w5 ⟨A3, c3, rfl, hr, hb⟩
      have HR3 := Lib.hid hr
      have HR1 := Lib.hid ((HR1.out.below hb).more hb.size)
      have HR2 := Lib.hid ((HR2.out.below hb).more hb.size)
      have HB3 := Lib.hid (HB2.out.trans (hb.mono HB2.out.size))
      clear hr hb
      go_wp2_with fail
      refine (HAW.out A3 A2 c3 c2 _ HR3.out HR2.out).mono ?_
      rintro e w6 ⟨A6, c6, rfl, hr, hb⟩
      have HR1 := Lib.hid ((HR1.out.below hb).more hb.size)
      have HR2 := Lib.hid ((HR2.out.below hb).more hb.size)
      have HR3 := Lib.hid ((HR3.out.below hb).more hb.size)
      have HR6 := Lib.hid hr
      have HB6 := Lib.hid (HB3.out.trans (hb.mono HB3.out.size))
      clear hr hb
      go_wp2_with fail
      refine (HOR.out A6 A1 c6 c1 _ HR6.out HR1.out).mono ?_
      rintro e w9 ⟨A9, c9, rfl, hr, hb⟩
      have HR1 := Lib.hid ((HR1.out.below hb).more hb.size)
      have HR2 := Lib.hid ((HR2.out.below hb).more hb.size)
      have HR3 := Lib.hid ((HR3.out.below hb).more hb.size)
      have HR6 := Lib.hid ((HR6.out.below hb).more hb.size)
      have HR9 := Lib.hid hr
      have HB9 := Lib.hid (HB6.out.trans (hb.mono HB6.out.size))
      clear hr hb
      go_wp2
      go_ret
      exact ⟨A9, c9, rfl, HR9.out, HB9.out⟩
    · skip
      have eW : withT 1 lo hi X = jT 5 (factN 1) X := if_neg hs1
      have eO : withoutT 1 lo hi Y = jT 5 (notT (factN 1)) Y := if_neg hs2
      rw [eW] at aW lW aJ lJ ⊢
      rw [eO] at aO lO aJ lJ ⊢
      rw [decide_eq_false hs1, Bool.not_false] at nH
      rw [decide_eq_false hs2, Bool.not_false] at nL
      have HOR := Lib.hid (fun A B c d W h h2 => gOr aW aO (by omega) (by omega) (by omega) A B c d W h h2)
      have HAW := Lib.hid (fun A B c d W h h2 => gAnd AF.out aX LF.out (by omega) (by omega) A B c d W h h2)
      have HNO := Lib.hid (fun A c W h => gNot AF.out LF.out LN.out A c W h)
      have HAO := Lib.hid (fun A B c d W h h2 => gAnd (all_parts aO).1 aY LN.out (by omega) (by omega) A B c d W h h2)
      clear eW eO hs1 hs2 aW aO aJ lJ lW lO aX aY lX lY HT HZ
      go_enter Tryd.func14, Tryd.ntmps14
      go_wp2_with fail
      refine (hF.out _).mono ?_
      rintro e w2 ⟨rfl, rfl⟩
      go_wp2
      go_quiet (first | (go_at_call 34; exact quiet_same (hFn.out _)))
      go_wp2_with fail
      refine (IHY.out _).mono ?_
      rintro e w3 ⟨A1, c1, rfl, hr, hb⟩
      have HR1 := Lib.hid hr
      have HB1 := Lib.hid (below_drewN0 hb)
      clear hr hb
      go_wp2_with fail
      refine (IHX.out _).mono ?_
      rintro e w4 ⟨A2, c2, rfl, hr, hb⟩
      have HR2 := Lib.hid hr
      have HR1 := Lib.hid ((HR1.out.below hb).more hb.size)
      have HB2 := Lib.hid (HB1.out.trans (hb.mono HB1.out.size))
      clear hr hb
      go_wp2_with fail
      refine (HFA.out _).mono ?_
      rintro e w5 ⟨A3, c3, rfl, hr, hb⟩
      have HR3 := Lib.hid hr
      have HR1 := Lib.hid ((HR1.out.below hb).more hb.size)
      have HR2 := Lib.hid ((HR2.out.below hb).more hb.size)
      have HB3 := Lib.hid (HB2.out.trans (hb.mono HB2.out.size))
      clear hr hb
      go_wp2_with fail
      refine (HAW.out A3 A2 c3 c2 _ HR3.out HR2.out).mono ?_
      rintro e w6 ⟨A6, c6, rfl, hr, hb⟩
      have HR1 := Lib.hid ((HR1.out.below hb).more hb.size)
      have HR2 := Lib.hid ((HR2.out.below hb).more hb.size)
      have HR3 := Lib.hid ((HR3.out.below hb).more hb.size)
      have HR6 := Lib.hid hr
      have HB6 := Lib.hid (HB3.out.trans (hb.mono HB3.out.size))
      clear hr hb
      go_wp2_with fail
      refine (HNO.out A3 c3 _ HR3.out).mono ?_
      rintro e w7 ⟨A7, c7, rfl, hr, hb⟩
      have HR1 := Lib.hid ((HR1.out.below hb).more hb.size)
      have HR2 := Lib.hid ((HR2.out.below hb).more hb.size)
      have HR3 := Lib.hid ((HR3.out.below hb).more hb.size)
      have HR6 := Lib.hid ((HR6.out.below hb).more hb.size)
      have HR7 := Lib.hid hr
      have HB7 := Lib.hid (HB6.out.trans (hb.mono HB6.out.size))
      clear hr hb
      go_wp2_with fail
      refine (HAO.out A7 A1 c7 c1 _ HR7.out HR1.out).mono ?_
      rintro e w8 ⟨A8, c8, rfl, hr, hb⟩
      have HR1 := Lib.hid ((HR1.out.below hb).more hb.size)
      have HR2 := Lib.hid ((HR2.out.below hb).more hb.size)
      have HR3 := Lib.hid ((HR3.out.below hb).more hb.size)
      have HR6 := Lib.hid ((HR6.out.below hb).more hb.size)
      have HR7 := Lib.hid ((HR7.out.below hb).more hb.size)
      have HR8 := Lib.hid hr
      have HB8 := Lib.hid (HB7.out.trans (hb.mono HB7.out.size))
      clear hr hb
      go_wp2_with fail
      refine (HOR.out A6 A8 c6 c8 _ HR6.out HR8.out).mono ?_
      rintro e w9 ⟨A9, c9, rfl, hr, hb⟩
      have HR1 := Lib.hid ((HR1.out.below hb).more hb.size)
      have HR2 := Lib.hid ((HR2.out.below hb).more hb.size)
      have HR3 := Lib.hid ((HR3.out.below hb).more hb.size)
      have HR6 := Lib.hid ((HR6.out.below hb).more hb.size)
      have HR7 := Lib.hid ((HR7.out.below hb).more hb.size)
      have HR8 := Lib.hid ((HR8.out.below hb).more hb.size)
      have HR9 := Lib.hid hr
      have HB9 := Lib.hid (HB8.out.trans (hb.mono HB8.out.size))
      clear hr hb
      go_wp2
      go_ret
      exact ⟨A9, c9, rfl, HR9.out, HB9.out⟩
set_option maxHeartbeats 2000000 in
theorem expand_3 (t : Nat) (ht : t < 2 ^ 2 ^ 3) (w : World) : Calls Tryd.prog 14 #[.int .u64 (t : Int), .int .i64 3] w (GivesT (expT 3 t) w) := by
  have hF := Lib.hid (fun W => full_any 3 (by omega) W)
  have hFn := Lib.hid (fun W => full_any 2 (by omega) W)
  have HT := Lib.hid (fun W => gTrue W)
  have HZ := Lib.hid (fun W => gFalse W)
  have HFA : Hid (∀ W, Calls Tryd.prog 15 #[.int .i64 2] W (GivesT (factN 2) W)) := Lib.hid (fun W => by
    have h := pFact_any 2 W
    rw [leafs_can.2.2.2.2.1] at h
    exact h)
  have hexp : expT 3 t = if t = 0 then cT 2 else if t = fullN 3 then cT 1 else if lowN 2 t = highN 2 t then expT 2 (highN 2 t) else jT 6 (withT 2 (lowN 2 t) (highN 2 t) (expT 2 (highN 2 t))) (withoutT 2 (lowN 2 t) (highN 2 t) (expT 2 (lowN 2 t))) := rfl
  have ht64 : t < 18446744073709551616 := Nat.lt_of_lt_of_le ht (by decide)
  by_cases h0 : t = 0
  · subst h0
    rw [if_pos rfl] at hexp
    rw [hexp]
    clear hexp
    go_enter Tryd.func14, Tryd.ntmps14
    go_wp2_with fail
    refine (HZ.out _).mono ?_
    rintro e w2 ⟨A, c, rfl, hr, hb⟩
    have HR := Lib.hid (And.intro hr hb)
    clear hr hb
    go_wp2
    go_ret
    exact ⟨A, c, rfl, HR.out.1, HR.out.2⟩
  rw [if_neg h0] at hexp
  have d0 : ((t : Int) == 0) = false := by rw [beq_eq_false_iff_ne]; omega
  by_cases h1 : t = fullN 3
  · rw [if_pos h1] at hexp
    rw [hexp]
    have d1 : ((t : Int) == ((fullN 3 : Nat) : Int)) = true := by rw [h1]; simp
    clear hexp h1 h0
    generalize fullN 3 = fu at *
    go_enter Tryd.func14, Tryd.ntmps14
    go_wp2_with fail
    refine (hF.out _).mono ?_
    rintro e w2 ⟨rfl, rfl⟩
    go_wp2_with fail
    refine (HT.out _).mono ?_
    rintro e w2 ⟨A, c, rfl, hr, hb⟩
    have HR := Lib.hid (And.intro hr hb)
    clear hr hb
    go_wp2
    go_ret
    exact ⟨A, c, rfl, HR.out.1, HR.out.2⟩
  rw [if_neg h1] at hexp
  have d1 : ((t : Int) == ((fullN 3 : Nat) : Int)) = false := by rw [beq_eq_false_iff_ne]; omega
  have hlo := low_lt 2 t
  have hhi := high_lt (n := 2) ht
  have eL : bits .and .u64 (t : Int) ((fullN 2 : Nat) : Int) = ((lowN 2 t : Nat) : Int) := u64_and_nat t (fullN 2) ht64 (by decide)
  have eH : (t : Int) / 16 = ((highN 2 t : Nat) : Int) := by
    unfold highN
    rw [Nat.shiftRight_eq_div_pow]
    rfl
  have aX := exp_all 2 (highN 2 t) (by omega)
  have lX := exp_len (n := 2) (by omega) hhi
  have aY := exp_all 2 (lowN 2 t) (by omega)
  have lY := exp_len (n := 2) (by omega) hlo
  have aJ := exp_all 3 t (by omega)
  have lJ := exp_len (n := 3) (by omega) ht
  have IHX := Lib.hid (fun W => expand_2 (highN 2 t) hhi W)
  have IHY := Lib.hid (fun W => expand_2 (lowN 2 t) hlo W)
  have nH := notSub9 (x := highN 2 t) (y := lowN 2 t) (Nat.lt_of_lt_of_le hhi (by decide))
  have nL := notSub9 (x := lowN 2 t) (y := highN 2 t) (Nat.lt_of_lt_of_le hlo (by decide))
  clear h0 h1 hlo hhi ht ht64
  generalize highN 2 t = hi at *
  generalize lowN 2 t = lo at *
  generalize fullN 3 = fu at *
  generalize fullN 2 = fv at *
  generalize expT 2 hi = X at *
  generalize expT 2 lo = Y at *
  by_cases he : lo = hi
  · rw [if_pos he] at hexp
    rw [hexp]
    have e1 : ((lo : Int) == (hi : Int)) = true := by rw [he]; simp
    clear hexp he aX aY aJ nH nL lX lY lJ HFA HT HZ
    go_enter Tryd.func14, Tryd.ntmps14
    go_wp2_with fail
    refine (hF.out _).mono ?_
    rintro e w2 ⟨rfl, rfl⟩
    go_wp2
    go_quiet (first | (go_at_call 34; exact quiet_same (hFn.out _)))
    go_wp2_with fail
    refine (IHY.out _).mono ?_
    rintro e w3 ⟨A1, c1, rfl, hr, hb⟩
    have HR1 := Lib.hid hr
    have HB1 := Lib.hid (below_drewN0 hb)
    clear hr hb
    go_wp2_with fail
    refine (IHX.out _).mono ?_
    rintro e w4 ⟨A2, c2, rfl, hr, hb⟩
    have HR2 := Lib.hid hr
    have HR1 := Lib.hid ((HR1.out.below hb).more hb.size)
    have HB2 := Lib.hid (HB1.out.trans (hb.mono HB1.out.size))
    clear hr hb
    go_wp2
    go_ret
    exact ⟨A2, c2, rfl, HR2.out, HB2.out⟩
  rw [if_neg he] at hexp
  have e1 : ((lo : Int) == (hi : Int)) = false := by rw [beq_eq_false_iff_ne]; omega
  rw [hexp] at aJ lJ ⊢
  obtain ⟨aW, aO⟩ := all_parts aJ
  obtain ⟨lW, lO⟩ := part_len aJ lJ
  have AF := Lib.hid (fact_all (i := 2) (by omega))
  have LF : Hid ((canT (factN 2)).length ≤ 200) := Lib.hid (by rw [fact_len.2.2.1]; decide)
  have LN : Hid ((canT (notT (factN 2))).length ≤ 200) := Lib.hid (by rw [fact_len.2.2.2.2.2.2.2.2.1]; decide)
  clear hexp he
  by_cases hs1 : subB hi lo
  · by_cases hs2 : subB lo hi
    · skip
      have eW : withT 2 lo hi X = X := if_pos hs1
      have eO : withoutT 2 lo hi Y = Y := if_pos hs2
      rw [eW] at aW lW aJ lJ ⊢
      rw [eO] at aO lO aJ lJ ⊢
      rw [decide_eq_true hs1, Bool.not_true] at nH
      rw [decide_eq_true hs2, Bool.not_true] at nL
      have HOR := Lib.hid (fun A B c d W h h2 => gOr aW aO (by omega) (by omega) (by omega) A B c d W h h2)
      clear eW eO hs1 hs2 aW aO aJ lJ lW lO aX aY lX lY HT HZ
      go_enter Tryd.func14, Tryd.ntmps14
      go_wp2_with fail
      refine (hF.out _).mono ?_
      rintro e w2 ⟨rfl, rfl⟩
      go_wp2
      go_quiet (first | (go_at_call 34; exact quiet_same (hFn.out _)))
      go_wp2_with fail
      refine (IHY.out _).mono ?_
      rintro e w3 ⟨A1, c1, rfl, hr, hb⟩
      have HR1 := Lib.hid hr
      have HB1 := Lib.hid (below_drewN0 hb)
      clear hr hb
      go_wp2_with fail
      refine (IHX.out _).mono ?_
      rintro e w4 ⟨A2, c2, rfl, hr, hb⟩
      have HR2 := Lib.hid hr
      have HR1 := Lib.hid ((HR1.out.below hb).more hb.size)
      have HB2 := Lib.hid (HB1.out.trans (hb.mono HB1.out.size))
      clear hr hb
      go_wp2_with fail
      refine (HFA.out _).mono ?_
      rintro e w5 ⟨A3, c3, rfl, hr, hb⟩
      have HR3 := Lib.hid hr
      have HR1 := Lib.hid ((HR1.out.below hb).more hb.size)
      have HR2 := Lib.hid ((HR2.out.below hb).more hb.size)
      have HB3 := Lib.hid (HB2.out.trans (hb.mono HB2.out.size))
      clear hr hb
      go_wp2_with fail
      refine (HOR.out A2 A1 c2 c1 _ HR2.out HR1.out).mono ?_
      rintro e w9 ⟨A9, c9, rfl, hr, hb⟩
      have HR1 := Lib.hid ((HR1.out.below hb).more hb.size)
      have HR2 := Lib.hid ((HR2.out.below hb).more hb.size)
      have HR3 := Lib.hid ((HR3.out.below hb).more hb.size)
      have HR9 := Lib.hid hr
      have HB9 := Lib.hid (HB3.out.trans (hb.mono HB3.out.size))
      clear hr hb
      go_wp2
      go_ret
      exact ⟨A9, c9, rfl, HR9.out, HB9.out⟩
    · skip
      have eW : withT 2 lo hi X = X := if_pos hs1
      have eO : withoutT 2 lo hi Y = jT 5 (notT (factN 2)) Y := if_neg hs2
      rw [eW] at aW lW aJ lJ ⊢
      rw [eO] at aO lO aJ lJ ⊢
      rw [decide_eq_true hs1, Bool.not_true] at nH
      rw [decide_eq_false hs2, Bool.not_false] at nL
      have HOR := Lib.hid (fun A B c d W h h2 => gOr aW aO (by omega) (by omega) (by omega) A B c d W h h2)
      have HNO := Lib.hid (fun A c W h => gNot AF.out LF.out LN.out A c W h)
      have HAO := Lib.hid (fun A B c d W h h2 => gAnd (all_parts aO).1 aY LN.out (by omega) (by omega) A B c d W h h2)
      clear eW eO hs1 hs2 aW aO aJ lJ lW lO aX aY lX lY HT HZ
      go_enter Tryd.func14, Tryd.ntmps14
      go_wp2_with fail
      refine (hF.out _).mono ?_
      rintro e w2 ⟨rfl, rfl⟩
      go_wp2
      go_quiet (first | (go_at_call 34; exact quiet_same (hFn.out _)))
      go_wp2_with fail
      refine (IHY.out _).mono ?_
      rintro e w3 ⟨A1, c1, rfl, hr, hb⟩
      have HR1 := Lib.hid hr
      have HB1 := Lib.hid (below_drewN0 hb)
      clear hr hb
      go_wp2_with fail
      refine (IHX.out _).mono ?_
      rintro e w4 ⟨A2, c2, rfl, hr, hb⟩
      have HR2 := Lib.hid hr
      have HR1 := Lib.hid ((HR1.out.below hb).more hb.size)
      have HB2 := Lib.hid (HB1.out.trans (hb.mono HB1.out.size))
      clear hr hb
      go_wp2_with fail
      refine (HFA.out _).mono ?_
      rintro e w5 ⟨A3, c3, rfl, hr, hb⟩
      have HR3 := Lib.hid hr
      have HR1 := Lib.hid ((HR1.out.below hb).more hb.size)
      have HR2 := Lib.hid ((HR2.out.below hb).more hb.size)
      have HB3 := Lib.hid (HB2.out.trans (hb.mono HB2.out.size))
      clear hr hb
      go_wp2_with fail
      refine (HNO.out A3 c3 _ HR3.out).mono ?_
      rintro e w7 ⟨A7, c7, rfl, hr, hb⟩
      have HR1 := Lib.hid ((HR1.out.below hb).more hb.size)
      have HR2 := Lib.hid ((HR2.out.below hb).more hb.size)
      have HR3 := Lib.hid ((HR3.out.below hb).more hb.size)
      have HR7 := Lib.hid hr
      have HB7 := Lib.hid (HB3.out.trans (hb.mono HB3.out.size))
      clear hr hb
      go_wp2_with fail
      refine (HAO.out A7 A1 c7 c1 _ HR7.out HR1.out).mono ?_
      rintro e w8 ⟨A8, c8, rfl, hr, hb⟩
      have HR1 := Lib.hid ((HR1.out.below hb).more hb.size)
      have HR2 := Lib.hid ((HR2.out.below hb).more hb.size)
      have HR3 := Lib.hid ((HR3.out.below hb).more hb.size)
      have HR7 := Lib.hid ((HR7.out.below hb).more hb.size)
      have HR8 := Lib.hid hr
      have HB8 := Lib.hid (HB7.out.trans (hb.mono HB7.out.size))
      clear hr hb
      go_wp2_with fail
      refine (HOR.out A2 A8 c2 c8 _ HR2.out HR8.out).mono ?_
      rintro e w9 ⟨A9, c9, rfl, hr, hb⟩
      have HR1 := Lib.hid ((HR1.out.below hb).more hb.size)
      have HR2 := Lib.hid ((HR2.out.below hb).more hb.size)
      have HR3 := Lib.hid ((HR3.out.below hb).more hb.size)
      have HR7 := Lib.hid ((HR7.out.below hb).more hb.size)
      have HR8 := Lib.hid ((HR8.out.below hb).more hb.size)
      have HR9 := Lib.hid hr
      have HB9 := Lib.hid (HB8.out.trans (hb.mono HB8.out.size))
      clear hr hb
      go_wp2
      go_ret
      exact ⟨A9, c9, rfl, HR9.out, HB9.out⟩
  · by_cases hs2 : subB lo hi
    · skip
      have eW : withT 2 lo hi X = jT 5 (factN 2) X := if_neg hs1
      have eO : withoutT 2 lo hi Y = Y := if_pos hs2
      rw [eW] at aW lW aJ lJ ⊢
      rw [eO] at aO lO aJ lJ ⊢
      rw [decide_eq_false hs1, Bool.not_false] at nH
      rw [decide_eq_true hs2, Bool.not_true] at nL
      have HOR := Lib.hid (fun A B c d W h h2 => gOr aW aO (by omega) (by omega) (by omega) A B c d W h h2)
      have HAW := Lib.hid (fun A B c d W h h2 => gAnd AF.out aX LF.out (by omega) (by omega) A B c d W h h2)
      clear eW eO hs1 hs2 aW aO aJ lJ lW lO aX aY lX lY HT HZ
      go_enter Tryd.func14, Tryd.ntmps14
      go_wp2_with fail
      refine (hF.out _).mono ?_
      rintro e w2 ⟨rfl, rfl⟩
      go_wp2
      go_quiet (first | (go_at_call 34; exact quiet_same (hFn.out _)))
      go_wp2_with fail
      refine (IHY.out _).mono ?_
      rintro e w3 ⟨A1, c1, rfl, hr, hb⟩
      have HR1 := Lib.hid hr
      have HB1 := Lib.hid (below_drewN0 hb)
      clear hr hb
      go_wp2_with fail
      refine (IHX.out _).mono ?_
      rintro e w4 ⟨A2, c2, rfl, hr, hb⟩
      have HR2 := Lib.hid hr
      have HR1 := Lib.hid ((HR1.out.below hb).more hb.size)
      have HB2 := Lib.hid (HB1.out.trans (hb.mono HB1.out.size))
      clear hr hb
      go_wp2_with fail
      refine (HFA.out _).mono ?_
      rintro e w5 ⟨A3, c3, rfl, hr, hb⟩
      have HR3 := Lib.hid hr
      have HR1 := Lib.hid ((HR1.out.below hb).more hb.size)
      have HR2 := Lib.hid ((HR2.out.below hb).more hb.size)
      have HB3 := Lib.hid (HB2.out.trans (hb.mono HB2.out.size))
      clear hr hb
      go_wp2_with fail
      refine (HAW.out A3 A2 c3 c2 _ HR3.out HR2.out).mono ?_
      rintro e w6 ⟨A6, c6, rfl, hr, hb⟩
      have HR1 := Lib.hid ((HR1.out.below hb).more hb.size)
      have HR2 := Lib.hid ((HR2.out.below hb).more hb.size)
      have HR3 := Lib.hid ((HR3.out.below hb).more hb.size)
      have HR6 := Lib.hid hr
      have HB6 := Lib.hid (HB3.out.trans (hb.mono HB3.out.size))
      clear hr hb
      go_wp2_with fail
      refine (HOR.out A6 A1 c6 c1 _ HR6.out HR1.out).mono ?_
      rintro e w9 ⟨A9, c9, rfl, hr, hb⟩
      have HR1 := Lib.hid ((HR1.out.below hb).more hb.size)
      have HR2 := Lib.hid ((HR2.out.below hb).more hb.size)
      have HR3 := Lib.hid ((HR3.out.below hb).more hb.size)
      have HR6 := Lib.hid ((HR6.out.below hb).more hb.size)
      have HR9 := Lib.hid hr
      have HB9 := Lib.hid (HB6.out.trans (hb.mono HB6.out.size))
      clear hr hb
      go_wp2
      go_ret
      exact ⟨A9, c9, rfl, HR9.out, HB9.out⟩
    · skip
      have eW : withT 2 lo hi X = jT 5 (factN 2) X := if_neg hs1
      have eO : withoutT 2 lo hi Y = jT 5 (notT (factN 2)) Y := if_neg hs2
      rw [eW] at aW lW aJ lJ ⊢
      rw [eO] at aO lO aJ lJ ⊢
      rw [decide_eq_false hs1, Bool.not_false] at nH
      rw [decide_eq_false hs2, Bool.not_false] at nL
      have HOR := Lib.hid (fun A B c d W h h2 => gOr aW aO (by omega) (by omega) (by omega) A B c d W h h2)
      have HAW := Lib.hid (fun A B c d W h h2 => gAnd AF.out aX LF.out (by omega) (by omega) A B c d W h h2)
      have HNO := Lib.hid (fun A c W h => gNot AF.out LF.out LN.out A c W h)
      have HAO := Lib.hid (fun A B c d W h h2 => gAnd (all_parts aO).1 aY LN.out (by omega) (by omega) A B c d W h h2)
      clear eW eO hs1 hs2 aW aO aJ lJ lW lO aX aY lX lY HT HZ
      go_enter Tryd.func14, Tryd.ntmps14
      go_wp2_with fail
      refine (hF.out _).mono ?_
      rintro e w2 ⟨rfl, rfl⟩
      go_wp2
      go_quiet (first | (go_at_call 34; exact quiet_same (hFn.out _)))
      go_wp2_with fail
      refine (IHY.out _).mono ?_
      rintro e w3 ⟨A1, c1, rfl, hr, hb⟩
      have HR1 := Lib.hid hr
      have HB1 := Lib.hid (below_drewN0 hb)
      clear hr hb
      go_wp2_with fail
      refine (IHX.out _).mono ?_
      rintro e w4 ⟨A2, c2, rfl, hr, hb⟩
      have HR2 := Lib.hid hr
      have HR1 := Lib.hid ((HR1.out.below hb).more hb.size)
      have HB2 := Lib.hid (HB1.out.trans (hb.mono HB1.out.size))
      clear hr hb
      go_wp2_with fail
      refine (HFA.out _).mono ?_
      rintro e w5 ⟨A3, c3, rfl, hr, hb⟩
      have HR3 := Lib.hid hr
      have HR1 := Lib.hid ((HR1.out.below hb).more hb.size)
      have HR2 := Lib.hid ((HR2.out.below hb).more hb.size)
      have HB3 := Lib.hid (HB2.out.trans (hb.mono HB2.out.size))
      clear hr hb
      go_wp2_with fail
      refine (HAW.out A3 A2 c3 c2 _ HR3.out HR2.out).mono ?_
      rintro e w6 ⟨A6, c6, rfl, hr, hb⟩
      have HR1 := Lib.hid ((HR1.out.below hb).more hb.size)
      have HR2 := Lib.hid ((HR2.out.below hb).more hb.size)
      have HR3 := Lib.hid ((HR3.out.below hb).more hb.size)
      have HR6 := Lib.hid hr
      have HB6 := Lib.hid (HB3.out.trans (hb.mono HB3.out.size))
      clear hr hb
      go_wp2_with fail
      refine (HNO.out A3 c3 _ HR3.out).mono ?_
      rintro e w7 ⟨A7, c7, rfl, hr, hb⟩
      have HR1 := Lib.hid ((HR1.out.below hb).more hb.size)
      have HR2 := Lib.hid ((HR2.out.below hb).more hb.size)
      have HR3 := Lib.hid ((HR3.out.below hb).more hb.size)
      have HR6 := Lib.hid ((HR6.out.below hb).more hb.size)
      have HR7 := Lib.hid hr
      have HB7 := Lib.hid (HB6.out.trans (hb.mono HB6.out.size))
      clear hr hb
      go_wp2_with fail
      refine (HAO.out A7 A1 c7 c1 _ HR7.out HR1.out).mono ?_
      rintro e w8 ⟨A8, c8, rfl, hr, hb⟩
      have HR1 := Lib.hid ((HR1.out.below hb).more hb.size)
      have HR2 := Lib.hid ((HR2.out.below hb).more hb.size)
      have HR3 := Lib.hid ((HR3.out.below hb).more hb.size)
      have HR6 := Lib.hid ((HR6.out.below hb).more hb.size)
      have HR7 := Lib.hid ((HR7.out.below hb).more hb.size)
      have HR8 := Lib.hid hr
      have HB8 := Lib.hid (HB7.out.trans (hb.mono HB7.out.size))
      clear hr hb
      go_wp2_with fail
      refine (HOR.out A6 A8 c6 c8 _ HR6.out HR8.out).mono ?_
      rintro e w9 ⟨A9, c9, rfl, hr, hb⟩
      have HR1 := Lib.hid ((HR1.out.below hb).more hb.size)
      have HR2 := Lib.hid ((HR2.out.below hb).more hb.size)
      have HR3 := Lib.hid ((HR3.out.below hb).more hb.size)
      have HR6 := Lib.hid ((HR6.out.below hb).more hb.size)
      have HR7 := Lib.hid ((HR7.out.below hb).more hb.size)
      have HR8 := Lib.hid ((HR8.out.below hb).more hb.size)
      have HR9 := Lib.hid hr
      have HB9 := Lib.hid (HB8.out.trans (hb.mono HB8.out.size))
      clear hr hb
      go_wp2
      go_ret
      exact ⟨A9, c9, rfl, HR9.out, HB9.out⟩
set_option maxHeartbeats 2000000 in
theorem expand_4 (t : Nat) (ht : t < 2 ^ 2 ^ 4) (w : World) : Calls Tryd.prog 14 #[.int .u64 (t : Int), .int .i64 4] w (GivesT (expT 4 t) w) := by
  have hF := Lib.hid (fun W => full_any 4 (by omega) W)
  have hFn := Lib.hid (fun W => full_any 3 (by omega) W)
  have HT := Lib.hid (fun W => gTrue W)
  have HZ := Lib.hid (fun W => gFalse W)
  have HFA : Hid (∀ W, Calls Tryd.prog 15 #[.int .i64 3] W (GivesT (factN 3) W)) := Lib.hid (fun W => by
    have h := pFact_any 3 W
    rw [leafs_can.2.2.2.2.2.1] at h
    exact h)
  have hexp : expT 4 t = if t = 0 then cT 2 else if t = fullN 4 then cT 1 else if lowN 3 t = highN 3 t then expT 3 (highN 3 t) else jT 6 (withT 3 (lowN 3 t) (highN 3 t) (expT 3 (highN 3 t))) (withoutT 3 (lowN 3 t) (highN 3 t) (expT 3 (lowN 3 t))) := rfl
  have ht64 : t < 18446744073709551616 := Nat.lt_of_lt_of_le ht (by decide)
  by_cases h0 : t = 0
  · subst h0
    rw [if_pos rfl] at hexp
    rw [hexp]
    clear hexp
    go_enter Tryd.func14, Tryd.ntmps14
    go_wp2_with fail
    refine (HZ.out _).mono ?_
    rintro e w2 ⟨A, c, rfl, hr, hb⟩
    have HR := Lib.hid (And.intro hr hb)
    clear hr hb
    go_wp2
    go_ret
    exact ⟨A, c, rfl, HR.out.1, HR.out.2⟩
  rw [if_neg h0] at hexp
  have d0 : ((t : Int) == 0) = false := by rw [beq_eq_false_iff_ne]; omega
  by_cases h1 : t = fullN 4
  · rw [if_pos h1] at hexp
    rw [hexp]
    have d1 : ((t : Int) == ((fullN 4 : Nat) : Int)) = true := by rw [h1]; simp
    clear hexp h1 h0
    generalize fullN 4 = fu at *
    go_enter Tryd.func14, Tryd.ntmps14
    go_wp2_with fail
    refine (hF.out _).mono ?_
    rintro e w2 ⟨rfl, rfl⟩
    go_wp2_with fail
    refine (HT.out _).mono ?_
    rintro e w2 ⟨A, c, rfl, hr, hb⟩
    have HR := Lib.hid (And.intro hr hb)
    clear hr hb
    go_wp2
    go_ret
    exact ⟨A, c, rfl, HR.out.1, HR.out.2⟩
  rw [if_neg h1] at hexp
  have d1 : ((t : Int) == ((fullN 4 : Nat) : Int)) = false := by rw [beq_eq_false_iff_ne]; omega
  have hlo := low_lt 3 t
  have hhi := high_lt (n := 3) ht
  have eL : bits .and .u64 (t : Int) ((fullN 3 : Nat) : Int) = ((lowN 3 t : Nat) : Int) := u64_and_nat t (fullN 3) ht64 (by decide)
  have eH : (t : Int) / 256 = ((highN 3 t : Nat) : Int) := by
    unfold highN
    rw [Nat.shiftRight_eq_div_pow]
    rfl
  have aX := exp_all 3 (highN 3 t) (by omega)
  have lX := exp_len (n := 3) (by omega) hhi
  have aY := exp_all 3 (lowN 3 t) (by omega)
  have lY := exp_len (n := 3) (by omega) hlo
  have aJ := exp_all 4 t (by omega)
  have lJ := exp_len (n := 4) (by omega) ht
  have IHX := Lib.hid (fun W => expand_3 (highN 3 t) hhi W)
  have IHY := Lib.hid (fun W => expand_3 (lowN 3 t) hlo W)
  have nH := notSub9 (x := highN 3 t) (y := lowN 3 t) (Nat.lt_of_lt_of_le hhi (by decide))
  have nL := notSub9 (x := lowN 3 t) (y := highN 3 t) (Nat.lt_of_lt_of_le hlo (by decide))
  clear h0 h1 hlo hhi ht ht64
  generalize highN 3 t = hi at *
  generalize lowN 3 t = lo at *
  generalize fullN 4 = fu at *
  generalize fullN 3 = fv at *
  generalize expT 3 hi = X at *
  generalize expT 3 lo = Y at *
  by_cases he : lo = hi
  · rw [if_pos he] at hexp
    rw [hexp]
    have e1 : ((lo : Int) == (hi : Int)) = true := by rw [he]; simp
    clear hexp he aX aY aJ nH nL lX lY lJ HFA HT HZ
    go_enter Tryd.func14, Tryd.ntmps14
    go_wp2_with fail
    refine (hF.out _).mono ?_
    rintro e w2 ⟨rfl, rfl⟩
    go_wp2
    go_quiet (first | (go_at_call 34; exact quiet_same (hFn.out _)))
    go_wp2_with fail
    refine (IHY.out _).mono ?_
    rintro e w3 ⟨A1, c1, rfl, hr, hb⟩
    have HR1 := Lib.hid hr
    have HB1 := Lib.hid (below_drewN0 hb)
    clear hr hb
    go_wp2_with fail
    refine (IHX.out _).mono ?_
    rintro e w4 ⟨A2, c2, rfl, hr, hb⟩
    have HR2 := Lib.hid hr
    have HR1 := Lib.hid ((HR1.out.below hb).more hb.size)
    have HB2 := Lib.hid (HB1.out.trans (hb.mono HB1.out.size))
    clear hr hb
    go_wp2
    go_ret
    exact ⟨A2, c2, rfl, HR2.out, HB2.out⟩
  rw [if_neg he] at hexp
  have e1 : ((lo : Int) == (hi : Int)) = false := by rw [beq_eq_false_iff_ne]; omega
  rw [hexp] at aJ lJ ⊢
  obtain ⟨aW, aO⟩ := all_parts aJ
  obtain ⟨lW, lO⟩ := part_len aJ lJ
  have AF := Lib.hid (fact_all (i := 3) (by omega))
  have LF : Hid ((canT (factN 3)).length ≤ 200) := Lib.hid (by rw [fact_len.2.2.2.1]; decide)
  have LN : Hid ((canT (notT (factN 3))).length ≤ 200) := Lib.hid (by rw [fact_len.2.2.2.2.2.2.2.2.2.1]; decide)
  clear hexp he
  by_cases hs1 : subB hi lo
  · by_cases hs2 : subB lo hi
    · skip
      have eW : withT 3 lo hi X = X := if_pos hs1
      have eO : withoutT 3 lo hi Y = Y := if_pos hs2
      rw [eW] at aW lW aJ lJ ⊢
      rw [eO] at aO lO aJ lJ ⊢
      rw [decide_eq_true hs1, Bool.not_true] at nH
      rw [decide_eq_true hs2, Bool.not_true] at nL
      have HOR := Lib.hid (fun A B c d W h h2 => gOr aW aO (by omega) (by omega) (by omega) A B c d W h h2)
      clear eW eO hs1 hs2 aW aO aJ lJ lW lO aX aY lX lY HT HZ
      go_enter Tryd.func14, Tryd.ntmps14
      go_wp2_with fail
      refine (hF.out _).mono ?_
      rintro e w2 ⟨rfl, rfl⟩
      go_wp2
      go_quiet (first | (go_at_call 34; exact quiet_same (hFn.out _)))
      go_wp2_with fail
      refine (IHY.out _).mono ?_
      rintro e w3 ⟨A1, c1, rfl, hr, hb⟩
      have HR1 := Lib.hid hr
      have HB1 := Lib.hid (below_drewN0 hb)
      clear hr hb
      go_wp2_with fail
      refine (IHX.out _).mono ?_
      rintro e w4 ⟨A2, c2, rfl, hr, hb⟩
      have HR2 := Lib.hid hr
      have HR1 := Lib.hid ((HR1.out.below hb).more hb.size)
      have HB2 := Lib.hid (HB1.out.trans (hb.mono HB1.out.size))
      clear hr hb
      go_wp2_with fail
      refine (HFA.out _).mono ?_
      rintro e w5 ⟨A3, c3, rfl, hr, hb⟩
      have HR3 := Lib.hid hr
      have HR1 := Lib.hid ((HR1.out.below hb).more hb.size)
      have HR2 := Lib.hid ((HR2.out.below hb).more hb.size)
      have HB3 := Lib.hid (HB2.out.trans (hb.mono HB2.out.size))
      clear hr hb
      go_wp2_with fail
      refine (HOR.out A2 A1 c2 c1 _ HR2.out HR1.out).mono ?_
      rintro e w9 ⟨A9, c9, rfl, hr, hb⟩
      have HR1 := Lib.hid ((HR1.out.below hb).more hb.size)
      have HR2 := Lib.hid ((HR2.out.below hb).more hb.size)
      have HR3 := Lib.hid ((HR3.out.below hb).more hb.size)
      have HR9 := Lib.hid hr
      have HB9 := Lib.hid (HB3.out.trans (hb.mono HB3.out.size))
      clear hr hb
      go_wp2
      go_ret
      exact ⟨A9, c9, rfl, HR9.out, HB9.out⟩
    · skip
      have eW : withT 3 lo hi X = X := if_pos hs1
      have eO : withoutT 3 lo hi Y = jT 5 (notT (factN 3)) Y := if_neg hs2
      rw [eW] at aW lW aJ lJ ⊢
      rw [eO] at aO lO aJ lJ ⊢
      rw [decide_eq_true hs1, Bool.not_true] at nH
      rw [decide_eq_false hs2, Bool.not_false] at nL
      have HOR := Lib.hid (fun A B c d W h h2 => gOr aW aO (by omega) (by omega) (by omega) A B c d W h h2)
      have HNO := Lib.hid (fun A c W h => gNot AF.out LF.out LN.out A c W h)
      have HAO := Lib.hid (fun A B c d W h h2 => gAnd (all_parts aO).1 aY LN.out (by omega) (by omega) A B c d W h h2)
      clear eW eO hs1 hs2 aW aO aJ lJ lW lO aX aY lX lY HT HZ
      go_enter Tryd.func14, Tryd.ntmps14
      go_wp2_with fail
      refine (hF.out _).mono ?_
      rintro e w2 ⟨rfl, rfl⟩
      go_wp2
      go_quiet (first | (go_at_call 34; exact quiet_same (hFn.out _)))
      go_wp2_with fail
      refine (IHY.out _).mono ?_
      rintro e w3 ⟨A1, c1, rfl, hr, hb⟩
      have HR1 := Lib.hid hr
      have HB1 := Lib.hid (below_drewN0 hb)
      clear hr hb
      go_wp2_with fail
      refine (IHX.out _).mono ?_
      rintro e w4 ⟨A2, c2, rfl, hr, hb⟩
      have HR2 := Lib.hid hr
      have HR1 := Lib.hid ((HR1.out.below hb).more hb.size)
      have HB2 := Lib.hid (HB1.out.trans (hb.mono HB1.out.size))
      clear hr hb
      go_wp2_with fail
      refine (HFA.out _).mono ?_
      rintro e w5 ⟨A3, c3, rfl, hr, hb⟩
      have HR3 := Lib.hid hr
      have HR1 := Lib.hid ((HR1.out.below hb).more hb.size)
      have HR2 := Lib.hid ((HR2.out.below hb).more hb.size)
      have HB3 := Lib.hid (HB2.out.trans (hb.mono HB2.out.size))
      clear hr hb
      go_wp2_with fail
      refine (HNO.out A3 c3 _ HR3.out).mono ?_
      rintro e w7 ⟨A7, c7, rfl, hr, hb⟩
      have HR1 := Lib.hid ((HR1.out.below hb).more hb.size)
      have HR2 := Lib.hid ((HR2.out.below hb).more hb.size)
      have HR3 := Lib.hid ((HR3.out.below hb).more hb.size)
      have HR7 := Lib.hid hr
      have HB7 := Lib.hid (HB3.out.trans (hb.mono HB3.out.size))
      clear hr hb
      go_wp2_with fail
      refine (HAO.out A7 A1 c7 c1 _ HR7.out HR1.out).mono ?_
      rintro e w8 ⟨A8, c8, rfl, hr, hb⟩
      have HR1 := Lib.hid ((HR1.out.below hb).more hb.size)
      have HR2 := Lib.hid ((HR2.out.below hb).more hb.size)
      have HR3 := Lib.hid ((HR3.out.below hb).more hb.size)
      have HR7 := Lib.hid ((HR7.out.below hb).more hb.size)
      have HR8 := Lib.hid hr
      have HB8 := Lib.hid (HB7.out.trans (hb.mono HB7.out.size))
      clear hr hb
      go_wp2_with fail
      refine (HOR.out A2 A8 c2 c8 _ HR2.out HR8.out).mono ?_
      rintro e w9 ⟨A9, c9, rfl, hr, hb⟩
      have HR1 := Lib.hid ((HR1.out.below hb).more hb.size)
      have HR2 := Lib.hid ((HR2.out.below hb).more hb.size)
      have HR3 := Lib.hid ((HR3.out.below hb).more hb.size)
      have HR7 := Lib.hid ((HR7.out.below hb).more hb.size)
      have HR8 := Lib.hid ((HR8.out.below hb).more hb.size)
      have HR9 := Lib.hid hr
      have HB9 := Lib.hid (HB8.out.trans (hb.mono HB8.out.size))
      clear hr hb
      go_wp2
      go_ret
      exact ⟨A9, c9, rfl, HR9.out, HB9.out⟩
  · by_cases hs2 : subB lo hi
    · skip
      have eW : withT 3 lo hi X = jT 5 (factN 3) X := if_neg hs1
      have eO : withoutT 3 lo hi Y = Y := if_pos hs2
      rw [eW] at aW lW aJ lJ ⊢
      rw [eO] at aO lO aJ lJ ⊢
      rw [decide_eq_false hs1, Bool.not_false] at nH
      rw [decide_eq_true hs2, Bool.not_true] at nL
      have HOR := Lib.hid (fun A B c d W h h2 => gOr aW aO (by omega) (by omega) (by omega) A B c d W h h2)
      have HAW := Lib.hid (fun A B c d W h h2 => gAnd AF.out aX LF.out (by omega) (by omega) A B c d W h h2)
      clear eW eO hs1 hs2 aW aO aJ lJ lW lO aX aY lX lY HT HZ
      go_enter Tryd.func14, Tryd.ntmps14
      go_wp2_with fail
      refine (hF.out _).mono ?_
      rintro e w2 ⟨rfl, rfl⟩
      go_wp2
      go_quiet (first | (go_at_call 34; exact quiet_same (hFn.out _)))
      go_wp2_with fail
      refine (IHY.out _).mono ?_
      rintro e w3 ⟨A1, c1, rfl, hr, hb⟩
      have HR1 := Lib.hid hr
      have HB1 := Lib.hid (below_drewN0 hb)
      clear hr hb
      go_wp2_with fail
      refine (IHX.out _).mono ?_
      rintro e w4 ⟨A2, c2, rfl, hr, hb⟩
      have HR2 := Lib.hid hr
      have HR1 := Lib.hid ((HR1.out.below hb).more hb.size)
      have HB2 := Lib.hid (HB1.out.trans (hb.mono HB1.out.size))
      clear hr hb
      go_wp2_with fail
      refine (HFA.out _).mono ?_
      rintro e w5 ⟨A3, c3, rfl, hr, hb⟩
      have HR3 := Lib.hid hr
      have HR1 := Lib.hid ((HR1.out.below hb).more hb.size)
      have HR2 := Lib.hid ((HR2.out.below hb).more hb.size)
      have HB3 := Lib.hid (HB2.out.trans (hb.mono HB2.out.size))
      clear hr hb
      go_wp2_with fail
      refine (HAW.out A3 A2 c3 c2 _ HR3.out HR2.out).mono ?_
      rintro e w6 ⟨A6, c6, rfl, hr, hb⟩
      have HR1 := Lib.hid ((HR1.out.below hb).more hb.size)
      have HR2 := Lib.hid ((HR2.out.below hb).more hb.size)
      have HR3 := Lib.hid ((HR3.out.below hb).more hb.size)
      have HR6 := Lib.hid hr
      have HB6 := Lib.hid (HB3.out.trans (hb.mono HB3.out.size))
      clear hr hb
      go_wp2_with fail
      refine (HOR.out A6 A1 c6 c1 _ HR6.out HR1.out).mono ?_
      rintro e w9 ⟨A9, c9, rfl, hr, hb⟩
      have HR1 := Lib.hid ((HR1.out.below hb).more hb.size)
      have HR2 := Lib.hid ((HR2.out.below hb).more hb.size)
      have HR3 := Lib.hid ((HR3.out.below hb).more hb.size)
      have HR6 := Lib.hid ((HR6.out.below hb).more hb.size)
      have HR9 := Lib.hid hr
      have HB9 := Lib.hid (HB6.out.trans (hb.mono HB6.out.size))
      clear hr hb
      go_wp2
      go_ret
      exact ⟨A9, c9, rfl, HR9.out, HB9.out⟩
    · skip
      have eW : withT 3 lo hi X = jT 5 (factN 3) X := if_neg hs1
      have eO : withoutT 3 lo hi Y = jT 5 (notT (factN 3)) Y := if_neg hs2
      rw [eW] at aW lW aJ lJ ⊢
      rw [eO] at aO lO aJ lJ ⊢
      rw [decide_eq_false hs1, Bool.not_false] at nH
      rw [decide_eq_false hs2, Bool.not_false] at nL
      have HOR := Lib.hid (fun A B c d W h h2 => gOr aW aO (by omega) (by omega) (by omega) A B c d W h h2)
      have HAW := Lib.hid (fun A B c d W h h2 => gAnd AF.out aX LF.out (by omega) (by omega) A B c d W h h2)
      have HNO := Lib.hid (fun A c W h => gNot AF.out LF.out LN.out A c W h)
      have HAO := Lib.hid (fun A B c d W h h2 => gAnd (all_parts aO).1 aY LN.out (by omega) (by omega) A B c d W h h2)
      clear eW eO hs1 hs2 aW aO aJ lJ lW lO aX aY lX lY HT HZ
      go_enter Tryd.func14, Tryd.ntmps14
      go_wp2_with fail
      refine (hF.out _).mono ?_
      rintro e w2 ⟨rfl, rfl⟩
      go_wp2
      go_quiet (first | (go_at_call 34; exact quiet_same (hFn.out _)))
      go_wp2_with fail
      refine (IHY.out _).mono ?_
      rintro e w3 ⟨A1, c1, rfl, hr, hb⟩
      have HR1 := Lib.hid hr
      have HB1 := Lib.hid (below_drewN0 hb)
      clear hr hb
      go_wp2_with fail
      refine (IHX.out _).mono ?_
      rintro e w4 ⟨A2, c2, rfl, hr, hb⟩
      have HR2 := Lib.hid hr
      have HR1 := Lib.hid ((HR1.out.below hb).more hb.size)
      have HB2 := Lib.hid (HB1.out.trans (hb.mono HB1.out.size))
      clear hr hb
      go_wp2_with fail
      refine (HFA.out _).mono ?_
      rintro e w5 ⟨A3, c3, rfl, hr, hb⟩
      have HR3 := Lib.hid hr
      have HR1 := Lib.hid ((HR1.out.below hb).more hb.size)
      have HR2 := Lib.hid ((HR2.out.below hb).more hb.size)
      have HB3 := Lib.hid (HB2.out.trans (hb.mono HB2.out.size))
      clear hr hb
      go_wp2_with fail
      refine (HAW.out A3 A2 c3 c2 _ HR3.out HR2.out).mono ?_
      rintro e w6 ⟨A6, c6, rfl, hr, hb⟩
      have HR1 := Lib.hid ((HR1.out.below hb).more hb.size)
      have HR2 := Lib.hid ((HR2.out.below hb).more hb.size)
      have HR3 := Lib.hid ((HR3.out.below hb).more hb.size)
      have HR6 := Lib.hid hr
      have HB6 := Lib.hid (HB3.out.trans (hb.mono HB3.out.size))
      clear hr hb
      go_wp2_with fail
      refine (HNO.out A3 c3 _ HR3.out).mono ?_
      rintro e w7 ⟨A7, c7, rfl, hr, hb⟩
      have HR1 := Lib.hid ((HR1.out.below hb).more hb.size)
      have HR2 := Lib.hid ((HR2.out.below hb).more hb.size)
      have HR3 := Lib.hid ((HR3.out.below hb).more hb.size)
      have HR6 := Lib.hid ((HR6.out.below hb).more hb.size)
      have HR7 := Lib.hid hr
      have HB7 := Lib.hid (HB6.out.trans (hb.mono HB6.out.size))
      clear hr hb
      go_wp2_with fail
      refine (HAO.out A7 A1 c7 c1 _ HR7.out HR1.out).mono ?_
      rintro e w8 ⟨A8, c8, rfl, hr, hb⟩
      have HR1 := Lib.hid ((HR1.out.below hb).more hb.size)
      have HR2 := Lib.hid ((HR2.out.below hb).more hb.size)
      have HR3 := Lib.hid ((HR3.out.below hb).more hb.size)
      have HR6 := Lib.hid ((HR6.out.below hb).more hb.size)
      have HR7 := Lib.hid ((HR7.out.below hb).more hb.size)
      have HR8 := Lib.hid hr
      have HB8 := Lib.hid (HB7.out.trans (hb.mono HB7.out.size))
      clear hr hb
      go_wp2_with fail
      refine (HOR.out A6 A8 c6 c8 _ HR6.out HR8.out).mono ?_
      rintro e w9 ⟨A9, c9, rfl, hr, hb⟩
      have HR1 := Lib.hid ((HR1.out.below hb).more hb.size)
      have HR2 := Lib.hid ((HR2.out.below hb).more hb.size)
      have HR3 := Lib.hid ((HR3.out.below hb).more hb.size)
      have HR6 := Lib.hid ((HR6.out.below hb).more hb.size)
      have HR7 := Lib.hid ((HR7.out.below hb).more hb.size)
      have HR8 := Lib.hid ((HR8.out.below hb).more hb.size)
      have HR9 := Lib.hid hr
      have HB9 := Lib.hid (HB8.out.trans (hb.mono HB8.out.size))
      clear hr hb
      go_wp2
      go_ret
      exact ⟨A9, c9, rfl, HR9.out, HB9.out⟩
set_option maxHeartbeats 2000000 in
theorem expand_5 (t : Nat) (ht : t < 2 ^ 2 ^ 5) (w : World) : Calls Tryd.prog 14 #[.int .u64 (t : Int), .int .i64 5] w (GivesT (expT 5 t) w) := by
  have hF := Lib.hid (fun W => full_any 5 (by omega) W)
  have hFn := Lib.hid (fun W => full_any 4 (by omega) W)
  have HT := Lib.hid (fun W => gTrue W)
  have HZ := Lib.hid (fun W => gFalse W)
  have HFA : Hid (∀ W, Calls Tryd.prog 15 #[.int .i64 4] W (GivesT (factN 4) W)) := Lib.hid (fun W => by
    have h := pFact_any 4 W
    rw [leafs_can.2.2.2.2.2.2.1] at h
    exact h)
  have hexp : expT 5 t = if t = 0 then cT 2 else if t = fullN 5 then cT 1 else if lowN 4 t = highN 4 t then expT 4 (highN 4 t) else jT 6 (withT 4 (lowN 4 t) (highN 4 t) (expT 4 (highN 4 t))) (withoutT 4 (lowN 4 t) (highN 4 t) (expT 4 (lowN 4 t))) := rfl
  have ht64 : t < 18446744073709551616 := Nat.lt_of_lt_of_le ht (by decide)
  by_cases h0 : t = 0
  · subst h0
    rw [if_pos rfl] at hexp
    rw [hexp]
    clear hexp
    go_enter Tryd.func14, Tryd.ntmps14
    go_wp2_with fail
    refine (HZ.out _).mono ?_
    rintro e w2 ⟨A, c, rfl, hr, hb⟩
    have HR := Lib.hid (And.intro hr hb)
    clear hr hb
    go_wp2
    go_ret
    exact ⟨A, c, rfl, HR.out.1, HR.out.2⟩
  rw [if_neg h0] at hexp
  have d0 : ((t : Int) == 0) = false := by rw [beq_eq_false_iff_ne]; omega
  by_cases h1 : t = fullN 5
  · rw [if_pos h1] at hexp
    rw [hexp]
    have d1 : ((t : Int) == ((fullN 5 : Nat) : Int)) = true := by rw [h1]; simp
    clear hexp h1 h0
    generalize fullN 5 = fu at *
    go_enter Tryd.func14, Tryd.ntmps14
    go_wp2_with fail
    refine (hF.out _).mono ?_
    rintro e w2 ⟨rfl, rfl⟩
    go_wp2_with fail
    refine (HT.out _).mono ?_
    rintro e w2 ⟨A, c, rfl, hr, hb⟩
    have HR := Lib.hid (And.intro hr hb)
    clear hr hb
    go_wp2
    go_ret
    exact ⟨A, c, rfl, HR.out.1, HR.out.2⟩
  rw [if_neg h1] at hexp
  have d1 : ((t : Int) == ((fullN 5 : Nat) : Int)) = false := by rw [beq_eq_false_iff_ne]; omega
  have hlo := low_lt 4 t
  have hhi := high_lt (n := 4) ht
  have eL : bits .and .u64 (t : Int) ((fullN 4 : Nat) : Int) = ((lowN 4 t : Nat) : Int) := u64_and_nat t (fullN 4) ht64 (by decide)
  have eH : (t : Int) / 65536 = ((highN 4 t : Nat) : Int) := by
    unfold highN
    rw [Nat.shiftRight_eq_div_pow]
    rfl
  have aX := exp_all 4 (highN 4 t) (by omega)
  have lX := exp_len (n := 4) (by omega) hhi
  have aY := exp_all 4 (lowN 4 t) (by omega)
  have lY := exp_len (n := 4) (by omega) hlo
  have aJ := exp_all 5 t (by omega)
  have lJ := exp_len (n := 5) (by omega) ht
  have IHX := Lib.hid (fun W => expand_4 (highN 4 t) hhi W)
  have IHY := Lib.hid (fun W => expand_4 (lowN 4 t) hlo W)
  have nH := notSub9 (x := highN 4 t) (y := lowN 4 t) (Nat.lt_of_lt_of_le hhi (by decide))
  have nL := notSub9 (x := lowN 4 t) (y := highN 4 t) (Nat.lt_of_lt_of_le hlo (by decide))
  clear h0 h1 hlo hhi ht ht64
  generalize highN 4 t = hi at *
  generalize lowN 4 t = lo at *
  generalize fullN 5 = fu at *
  generalize fullN 4 = fv at *
  generalize expT 4 hi = X at *
  generalize expT 4 lo = Y at *
  by_cases he : lo = hi
  · rw [if_pos he] at hexp
    rw [hexp]
    have e1 : ((lo : Int) == (hi : Int)) = true := by rw [he]; simp
    clear hexp he aX aY aJ nH nL lX lY lJ HFA HT HZ
    go_enter Tryd.func14, Tryd.ntmps14
    go_wp2_with fail
    refine (hF.out _).mono ?_
    rintro e w2 ⟨rfl, rfl⟩
    go_wp2
    go_quiet (first | (go_at_call 34; exact quiet_same (hFn.out _)))
    go_wp2_with fail
    refine (IHY.out _).mono ?_
    rintro e w3 ⟨A1, c1, rfl, hr, hb⟩
    have HR1 := Lib.hid hr
    have HB1 := Lib.hid (below_drewN0 hb)
    clear hr hb
    go_wp2_with fail
    refine (IHX.out _).mono ?_
    rintro e w4 ⟨A2, c2, rfl, hr, hb⟩
    have HR2 := Lib.hid hr
    have HR1 := Lib.hid ((HR1.out.below hb).more hb.size)
    have HB2 := Lib.hid (HB1.out.trans (hb.mono HB1.out.size))
    clear hr hb
    go_wp2
    go_ret
    exact ⟨A2, c2, rfl, HR2.out, HB2.out⟩
  rw [if_neg he] at hexp
  have e1 : ((lo : Int) == (hi : Int)) = false := by rw [beq_eq_false_iff_ne]; omega
  rw [hexp] at aJ lJ ⊢
  obtain ⟨aW, aO⟩ := all_parts aJ
  obtain ⟨lW, lO⟩ := part_len aJ lJ
  have AF := Lib.hid (fact_all (i := 4) (by omega))
  have LF : Hid ((canT (factN 4)).length ≤ 200) := Lib.hid (by rw [fact_len.2.2.2.2.1]; decide)
  have LN : Hid ((canT (notT (factN 4))).length ≤ 200) := Lib.hid (by rw [fact_len.2.2.2.2.2.2.2.2.2.2.1]; decide)
  clear hexp he
  by_cases hs1 : subB hi lo
  · by_cases hs2 : subB lo hi
    · skip
      have eW : withT 4 lo hi X = X := if_pos hs1
      have eO : withoutT 4 lo hi Y = Y := if_pos hs2
      rw [eW] at aW lW aJ lJ ⊢
      rw [eO] at aO lO aJ lJ ⊢
      rw [decide_eq_true hs1, Bool.not_true] at nH
      rw [decide_eq_true hs2, Bool.not_true] at nL
      have HOR := Lib.hid (fun A B c d W h h2 => gOr aW aO (by omega) (by omega) (by omega) A B c d W h h2)
      clear eW eO hs1 hs2 aW aO aJ lJ lW lO aX aY lX lY HT HZ
      go_enter Tryd.func14, Tryd.ntmps14
      go_wp2_with fail
      refine (hF.out _).mono ?_
      rintro e w2 ⟨rfl, rfl⟩
      go_wp2
      go_quiet (first | (go_at_call 34; exact quiet_same (hFn.out _)))
      go_wp2_with fail
      refine (IHY.out _).mono ?_
      rintro e w3 ⟨A1, c1, rfl, hr, hb⟩
      have HR1 := Lib.hid hr
      have HB1 := Lib.hid (below_drewN0 hb)
      clear hr hb
      go_wp2_with fail
      refine (IHX.out _).mono ?_
      rintro e w4 ⟨A2, c2, rfl, hr, hb⟩
      have HR2 := Lib.hid hr
      have HR1 := Lib.hid ((HR1.out.below hb).more hb.size)
      have HB2 := Lib.hid (HB1.out.trans (hb.mono HB1.out.size))
      clear hr hb
      go_wp2_with fail
      refine (HFA.out _).mono ?_
      rintro e w5 ⟨A3, c3, rfl, hr, hb⟩
      have HR3 := Lib.hid hr
      have HR1 := Lib.hid ((HR1.out.below hb).more hb.size)
      have HR2 := Lib.hid ((HR2.out.below hb).more hb.size)
      have HB3 := Lib.hid (HB2.out.trans (hb.mono HB2.out.size))
      clear hr hb
      go_wp2_with fail
      refine (HOR.out A2 A1 c2 c1 _ HR2.out HR1.out).mono ?_
      rintro e w9 ⟨A9, c9, rfl, hr, hb⟩
      have HR1 := Lib.hid ((HR1.out.below hb).more hb.size)
      have HR2 := Lib.hid ((HR2.out.below hb).more hb.size)
      have HR3 := Lib.hid ((HR3.out.below hb).more hb.size)
      have HR9 := Lib.hid hr
      have HB9 := Lib.hid (HB3.out.trans (hb.mono HB3.out.size))
      clear hr hb
      go_wp2
      go_ret
      exact ⟨A9, c9, rfl, HR9.out, HB9.out⟩
    · skip
      have eW : withT 4 lo hi X = X := if_pos hs1
      have eO : withoutT 4 lo hi Y = jT 5 (notT (factN 4)) Y := if_neg hs2
      rw [eW] at aW lW aJ lJ ⊢
      rw [eO] at aO lO aJ lJ ⊢
      rw [decide_eq_true hs1, Bool.not_true] at nH
      rw [decide_eq_false hs2, Bool.not_false] at nL
      have HOR := Lib.hid (fun A B c d W h h2 => gOr aW aO (by omega) (by omega) (by omega) A B c d W h h2)
      have HNO := Lib.hid (fun A c W h => gNot AF.out LF.out LN.out A c W h)
      have HAO := Lib.hid (fun A B c d W h h2 => gAnd (all_parts aO).1 aY LN.out (by omega) (by omega) A B c d W h h2)
      clear eW eO hs1 hs2 aW aO aJ lJ lW lO aX aY lX lY HT HZ
      go_enter Tryd.func14, Tryd.ntmps14
      go_wp2_with fail
      refine (hF.out _).mono ?_
      rintro e w2 ⟨rfl, rfl⟩
      go_wp2
      go_quiet (first | (go_at_call 34; exact quiet_same (hFn.out _)))
      go_wp2_with fail
      refine (IHY.out _).mono ?_
      rintro e w3 ⟨A1, c1, rfl, hr, hb⟩
      have HR1 := Lib.hid hr
      have HB1 := Lib.hid (below_drewN0 hb)
      clear hr hb
      go_wp2_with fail
      refine (IHX.out _).mono ?_
      rintro e w4 ⟨A2, c2, rfl, hr, hb⟩
      have HR2 := Lib.hid hr
      have HR1 := Lib.hid ((HR1.out.below hb).more hb.size)
      have HB2 := Lib.hid (HB1.out.trans (hb.mono HB1.out.size))
      clear hr hb
      go_wp2_with fail
      refine (HFA.out _).mono ?_
      rintro e w5 ⟨A3, c3, rfl, hr, hb⟩
      have HR3 := Lib.hid hr
      have HR1 := Lib.hid ((HR1.out.below hb).more hb.size)
      have HR2 := Lib.hid ((HR2.out.below hb).more hb.size)
      have HB3 := Lib.hid (HB2.out.trans (hb.mono HB2.out.size))
      clear hr hb
      go_wp2_with fail
      refine (HNO.out A3 c3 _ HR3.out).mono ?_
      rintro e w7 ⟨A7, c7, rfl, hr, hb⟩
      have HR1 := Lib.hid ((HR1.out.below hb).more hb.size)
      have HR2 := Lib.hid ((HR2.out.below hb).more hb.size)
      have HR3 := Lib.hid ((HR3.out.below hb).more hb.size)
      have HR7 := Lib.hid hr
      have HB7 := Lib.hid (HB3.out.trans (hb.mono HB3.out.size))
      clear hr hb
      go_wp2_with fail
      refine (HAO.out A7 A1 c7 c1 _ HR7.out HR1.out).mono ?_
      rintro e w8 ⟨A8, c8, rfl, hr, hb⟩
      have HR1 := Lib.hid ((HR1.out.below hb).more hb.size)
      have HR2 := Lib.hid ((HR2.out.below hb).more hb.size)
      have HR3 := Lib.hid ((HR3.out.below hb).more hb.size)
      have HR7 := Lib.hid ((HR7.out.below hb).more hb.size)
      have HR8 := Lib.hid hr
      have HB8 := Lib.hid (HB7.out.trans (hb.mono HB7.out.size))
      clear hr hb
      go_wp2_with fail
      refine (HOR.out A2 A8 c2 c8 _ HR2.out HR8.out).mono ?_
      rintro e w9 ⟨A9, c9, rfl, hr, hb⟩
      have HR1 := Lib.hid ((HR1.out.below hb).more hb.size)
      have HR2 := Lib.hid ((HR2.out.below hb).more hb.size)
      have HR3 := Lib.hid ((HR3.out.below hb).more hb.size)
      have HR7 := Lib.hid ((HR7.out.below hb).more hb.size)
      have HR8 := Lib.hid ((HR8.out.below hb).more hb.size)
      have HR9 := Lib.hid hr
      have HB9 := Lib.hid (HB8.out.trans (hb.mono HB8.out.size))
      clear hr hb
      go_wp2
      go_ret
      exact ⟨A9, c9, rfl, HR9.out, HB9.out⟩
  · by_cases hs2 : subB lo hi
    · skip
      have eW : withT 4 lo hi X = jT 5 (factN 4) X := if_neg hs1
      have eO : withoutT 4 lo hi Y = Y := if_pos hs2
      rw [eW] at aW lW aJ lJ ⊢
      rw [eO] at aO lO aJ lJ ⊢
      rw [decide_eq_false hs1, Bool.not_false] at nH
      rw [decide_eq_true hs2, Bool.not_true] at nL
      have HOR := Lib.hid (fun A B c d W h h2 => gOr aW aO (by omega) (by omega) (by omega) A B c d W h h2)
      have HAW := Lib.hid (fun A B c d W h h2 => gAnd AF.out aX LF.out (by omega) (by omega) A B c d W h h2)
      clear eW eO hs1 hs2 aW aO aJ lJ lW lO aX aY lX lY HT HZ
      go_enter Tryd.func14, Tryd.ntmps14
      go_wp2_with fail
      refine (hF.out _).mono ?_
      rintro e w2 ⟨rfl, rfl⟩
      go_wp2
      go_quiet (first | (go_at_call 34; exact quiet_same (hFn.out _)))
      go_wp2_with fail
      refine (IHY.out _).mono ?_
      rintro e w3 ⟨A1, c1, rfl, hr, hb⟩
      have HR1 := Lib.hid hr
      have HB1 := Lib.hid (below_drewN0 hb)
      clear hr hb
      go_wp2_with fail
      refine (IHX.out _).mono ?_
      rintro e w4 ⟨A2, c2, rfl, hr, hb⟩
      have HR2 := Lib.hid hr
      have HR1 := Lib.hid ((HR1.out.below hb).more hb.size)
      have HB2 := Lib.hid (HB1.out.trans (hb.mono HB1.out.size))
      clear hr hb
      go_wp2_with fail
      refine (HFA.out _).mono ?_
      rintro e w5 ⟨A3, c3, rfl, hr, hb⟩
      have HR3 := Lib.hid hr
      have HR1 := Lib.hid ((HR1.out.below hb).more hb.size)
      have HR2 := Lib.hid ((HR2.out.below hb).more hb.size)
      have HB3 := Lib.hid (HB2.out.trans (hb.mono HB2.out.size))
      clear hr hb
      go_wp2_with fail
      refine (HAW.out A3 A2 c3 c2 _ HR3.out HR2.out).mono ?_
      rintro e w6 ⟨A6, c6, rfl, hr, hb⟩
      have HR1 := Lib.hid ((HR1.out.below hb).more hb.size)
      have HR2 := Lib.hid ((HR2.out.below hb).more hb.size)
      have HR3 := Lib.hid ((HR3.out.below hb).more hb.size)
      have HR6 := Lib.hid hr
      have HB6 := Lib.hid (HB3.out.trans (hb.mono HB3.out.size))
      clear hr hb
      go_wp2_with fail
      refine (HOR.out A6 A1 c6 c1 _ HR6.out HR1.out).mono ?_
      rintro e w9 ⟨A9, c9, rfl, hr, hb⟩
      have HR1 := Lib.hid ((HR1.out.below hb).more hb.size)
      have HR2 := Lib.hid ((HR2.out.below hb).more hb.size)
      have HR3 := Lib.hid ((HR3.out.below hb).more hb.size)
      have HR6 := Lib.hid ((HR6.out.below hb).more hb.size)
      have HR9 := Lib.hid hr
      have HB9 := Lib.hid (HB6.out.trans (hb.mono HB6.out.size))
      clear hr hb
      go_wp2
      go_ret
      exact ⟨A9, c9, rfl, HR9.out, HB9.out⟩
    · skip
      have eW : withT 4 lo hi X = jT 5 (factN 4) X := if_neg hs1
      have eO : withoutT 4 lo hi Y = jT 5 (notT (factN 4)) Y := if_neg hs2
      rw [eW] at aW lW aJ lJ ⊢
      rw [eO] at aO lO aJ lJ ⊢
      rw [decide_eq_false hs1, Bool.not_false] at nH
      rw [decide_eq_false hs2, Bool.not_false] at nL
      have HOR := Lib.hid (fun A B c d W h h2 => gOr aW aO (by omega) (by omega) (by omega) A B c d W h h2)
      have HAW := Lib.hid (fun A B c d W h h2 => gAnd AF.out aX LF.out (by omega) (by omega) A B c d W h h2)
      have HNO := Lib.hid (fun A c W h => gNot AF.out LF.out LN.out A c W h)
      have HAO := Lib.hid (fun A B c d W h h2 => gAnd (all_parts aO).1 aY LN.out (by omega) (by omega) A B c d W h h2)
      clear eW eO hs1 hs2 aW aO aJ lJ lW lO aX aY lX lY HT HZ
      go_enter Tryd.func14, Tryd.ntmps14
      go_wp2_with fail
      refine (hF.out _).mono ?_
      rintro e w2 ⟨rfl, rfl⟩
      go_wp2
      go_quiet (first | (go_at_call 34; exact quiet_same (hFn.out _)))
      go_wp2_with fail
      refine (IHY.out _).mono ?_
      rintro e w3 ⟨A1, c1, rfl, hr, hb⟩
      have HR1 := Lib.hid hr
      have HB1 := Lib.hid (below_drewN0 hb)
      clear hr hb
      go_wp2_with fail
      refine (IHX.out _).mono ?_
      rintro e w4 ⟨A2, c2, rfl, hr, hb⟩
      have HR2 := Lib.hid hr
      have HR1 := Lib.hid ((HR1.out.below hb).more hb.size)
      have HB2 := Lib.hid (HB1.out.trans (hb.mono HB1.out.size))
      clear hr hb
      go_wp2_with fail
      refine (HFA.out _).mono ?_
      rintro e w5 ⟨A3, c3, rfl, hr, hb⟩
      have HR3 := Lib.hid hr
      have HR1 := Lib.hid ((HR1.out.below hb).more hb.size)
      have HR2 := Lib.hid ((HR2.out.below hb).more hb.size)
      have HB3 := Lib.hid (HB2.out.trans (hb.mono HB2.out.size))
      clear hr hb
      go_wp2_with fail
      refine (HAW.out A3 A2 c3 c2 _ HR3.out HR2.out).mono ?_
      rintro e w6 ⟨A6, c6, rfl, hr, hb⟩
      have HR1 := Lib.hid ((HR1.out.below hb).more hb.size)
      have HR2 := Lib.hid ((HR2.out.below hb).more hb.size)
      have HR3 := Lib.hid ((HR3.out.below hb).more hb.size)
      have HR6 := Lib.hid hr
      have HB6 := Lib.hid (HB3.out.trans (hb.mono HB3.out.size))
      clear hr hb
      go_wp2_with fail
      refine (HNO.out A3 c3 _ HR3.out).mono ?_
      rintro e w7 ⟨A7, c7, rfl, hr, hb⟩
      have HR1 := Lib.hid ((HR1.out.below hb).more hb.size)
      have HR2 := Lib.hid ((HR2.out.below hb).more hb.size)
      have HR3 := Lib.hid ((HR3.out.below hb).more hb.size)
      have HR6 := Lib.hid ((HR6.out.below hb).more hb.size)
      have HR7 := Lib.hid hr
      have HB7 := Lib.hid (HB6.out.trans (hb.mono HB6.out.size))
      clear hr hb
      go_wp2_with fail
      refine (HAO.out A7 A1 c7 c1 _ HR7.out HR1.out).mono ?_
      rintro e w8 ⟨A8, c8, rfl, hr, hb⟩
      have HR1 := Lib.hid ((HR1.out.below hb).more hb.size)
      have HR2 := Lib.hid ((HR2.out.below hb).more hb.size)
      have HR3 := Lib.hid ((HR3.out.below hb).more hb.size)
      have HR6 := Lib.hid ((HR6.out.below hb).more hb.size)
      have HR7 := Lib.hid ((HR7.out.below hb).more hb.size)
      have HR8 := Lib.hid hr
      have HB8 := Lib.hid (HB7.out.trans (hb.mono HB7.out.size))
      clear hr hb
      go_wp2_with fail
      refine (HOR.out A6 A8 c6 c8 _ HR6.out HR8.out).mono ?_
      rintro e w9 ⟨A9, c9, rfl, hr, hb⟩
      have HR1 := Lib.hid ((HR1.out.below hb).more hb.size)
      have HR2 := Lib.hid ((HR2.out.below hb).more hb.size)
      have HR3 := Lib.hid ((HR3.out.below hb).more hb.size)
      have HR6 := Lib.hid ((HR6.out.below hb).more hb.size)
      have HR7 := Lib.hid ((HR7.out.below hb).more hb.size)
      have HR8 := Lib.hid ((HR8.out.below hb).more hb.size)
      have HR9 := Lib.hid hr
      have HB9 := Lib.hid (HB8.out.trans (hb.mono HB8.out.size))
      clear hr hb
      go_wp2
      go_ret
      exact ⟨A9, c9, rfl, HR9.out, HB9.out⟩
set_option maxHeartbeats 2000000 in
theorem expand_6 (t : Nat) (ht : t < 2 ^ 2 ^ 6) (w : World) : Calls Tryd.prog 14 #[.int .u64 (t : Int), .int .i64 6] w (GivesT (expT 6 t) w) := by
  have hF := Lib.hid (fun W => full_any 6 (by omega) W)
  have hFn := Lib.hid (fun W => full_any 5 (by omega) W)
  have HT := Lib.hid (fun W => gTrue W)
  have HZ := Lib.hid (fun W => gFalse W)
  have HFA : Hid (∀ W, Calls Tryd.prog 15 #[.int .i64 5] W (GivesT (factN 5) W)) := Lib.hid (fun W => by
    have h := pFact_any 5 W
    rw [leafs_can.2.2.2.2.2.2.2] at h
    exact h)
  have hexp : expT 6 t = if t = 0 then cT 2 else if t = fullN 6 then cT 1 else if lowN 5 t = highN 5 t then expT 5 (highN 5 t) else jT 6 (withT 5 (lowN 5 t) (highN 5 t) (expT 5 (highN 5 t))) (withoutT 5 (lowN 5 t) (highN 5 t) (expT 5 (lowN 5 t))) := rfl
  have ht64 : t < 18446744073709551616 := Nat.lt_of_lt_of_le ht (by decide)
  by_cases h0 : t = 0
  · subst h0
    rw [if_pos rfl] at hexp
    rw [hexp]
    clear hexp
    go_enter Tryd.func14, Tryd.ntmps14
    go_wp2_with fail
    refine (HZ.out _).mono ?_
    rintro e w2 ⟨A, c, rfl, hr, hb⟩
    have HR := Lib.hid (And.intro hr hb)
    clear hr hb
    go_wp2
    go_ret
    exact ⟨A, c, rfl, HR.out.1, HR.out.2⟩
  rw [if_neg h0] at hexp
  have d0 : ((t : Int) == 0) = false := by rw [beq_eq_false_iff_ne]; omega
  by_cases h1 : t = fullN 6
  · rw [if_pos h1] at hexp
    rw [hexp]
    have d1 : ((t : Int) == ((fullN 6 : Nat) : Int)) = true := by rw [h1]; simp
    clear hexp h1 h0
    generalize fullN 6 = fu at *
    go_enter Tryd.func14, Tryd.ntmps14
    go_wp2_with fail
    refine (hF.out _).mono ?_
    rintro e w2 ⟨rfl, rfl⟩
    go_wp2_with fail
    refine (HT.out _).mono ?_
    rintro e w2 ⟨A, c, rfl, hr, hb⟩
    have HR := Lib.hid (And.intro hr hb)
    clear hr hb
    go_wp2
    go_ret
    exact ⟨A, c, rfl, HR.out.1, HR.out.2⟩
  rw [if_neg h1] at hexp
  have d1 : ((t : Int) == ((fullN 6 : Nat) : Int)) = false := by rw [beq_eq_false_iff_ne]; omega
  have hlo := low_lt 5 t
  have hhi := high_lt (n := 5) ht
  have eL : bits .and .u64 (t : Int) ((fullN 5 : Nat) : Int) = ((lowN 5 t : Nat) : Int) := u64_and_nat t (fullN 5) ht64 (by decide)
  have eH : (t : Int) / 4294967296 = ((highN 5 t : Nat) : Int) := by
    unfold highN
    rw [Nat.shiftRight_eq_div_pow]
    rfl
  have aX := exp_all 5 (highN 5 t) (by omega)
  have lX := exp_len (n := 5) (by omega) hhi
  have aY := exp_all 5 (lowN 5 t) (by omega)
  have lY := exp_len (n := 5) (by omega) hlo
  have aJ := exp_all 6 t (by omega)
  have lJ := exp_len (n := 6) (by omega) ht
  have IHX := Lib.hid (fun W => expand_5 (highN 5 t) hhi W)
  have IHY := Lib.hid (fun W => expand_5 (lowN 5 t) hlo W)
  have nH := notSub9 (x := highN 5 t) (y := lowN 5 t) (Nat.lt_of_lt_of_le hhi (by decide))
  have nL := notSub9 (x := lowN 5 t) (y := highN 5 t) (Nat.lt_of_lt_of_le hlo (by decide))
  clear h0 h1 hlo hhi ht ht64
  generalize highN 5 t = hi at *
  generalize lowN 5 t = lo at *
  generalize fullN 6 = fu at *
  generalize fullN 5 = fv at *
  generalize expT 5 hi = X at *
  generalize expT 5 lo = Y at *
  by_cases he : lo = hi
  · rw [if_pos he] at hexp
    rw [hexp]
    have e1 : ((lo : Int) == (hi : Int)) = true := by rw [he]; simp
    clear hexp he aX aY aJ nH nL lX lY lJ HFA HT HZ
    go_enter Tryd.func14, Tryd.ntmps14
    go_wp2_with fail
    refine (hF.out _).mono ?_
    rintro e w2 ⟨rfl, rfl⟩
    go_wp2
    go_quiet (first | (go_at_call 34; exact quiet_same (hFn.out _)))
    go_wp2_with fail
    refine (IHY.out _).mono ?_
    rintro e w3 ⟨A1, c1, rfl, hr, hb⟩
    have HR1 := Lib.hid hr
    have HB1 := Lib.hid (below_drewN0 hb)
    clear hr hb
    go_wp2_with fail
    refine (IHX.out _).mono ?_
    rintro e w4 ⟨A2, c2, rfl, hr, hb⟩
    have HR2 := Lib.hid hr
    have HR1 := Lib.hid ((HR1.out.below hb).more hb.size)
    have HB2 := Lib.hid (HB1.out.trans (hb.mono HB1.out.size))
    clear hr hb
    go_wp2
    go_ret
    exact ⟨A2, c2, rfl, HR2.out, HB2.out⟩
  rw [if_neg he] at hexp
  have e1 : ((lo : Int) == (hi : Int)) = false := by rw [beq_eq_false_iff_ne]; omega
  rw [hexp] at aJ lJ ⊢
  obtain ⟨aW, aO⟩ := all_parts aJ
  obtain ⟨lW, lO⟩ := part_len aJ lJ
  have AF := Lib.hid (fact_all (i := 5) (by omega))
  have LF : Hid ((canT (factN 5)).length ≤ 200) := Lib.hid (by rw [fact_len.2.2.2.2.2.1]; decide)
  have LN : Hid ((canT (notT (factN 5))).length ≤ 200) := Lib.hid (by rw [fact_len.2.2.2.2.2.2.2.2.2.2.2]; decide)
  clear hexp he
  by_cases hs1 : subB hi lo
  · by_cases hs2 : subB lo hi
    · skip
      have eW : withT 5 lo hi X = X := if_pos hs1
      have eO : withoutT 5 lo hi Y = Y := if_pos hs2
      rw [eW] at aW lW aJ lJ ⊢
      rw [eO] at aO lO aJ lJ ⊢
      rw [decide_eq_true hs1, Bool.not_true] at nH
      rw [decide_eq_true hs2, Bool.not_true] at nL
      have HOR := Lib.hid (fun A B c d W h h2 => gOr aW aO (by omega) (by omega) (by omega) A B c d W h h2)
      clear eW eO hs1 hs2 aW aO aJ lJ lW lO aX aY lX lY HT HZ
      go_enter Tryd.func14, Tryd.ntmps14
      go_wp2_with fail
      refine (hF.out _).mono ?_
      rintro e w2 ⟨rfl, rfl⟩
      go_wp2
      go_quiet (first | (go_at_call 34; exact quiet_same (hFn.out _)))
      go_wp2_with fail
      refine (IHY.out _).mono ?_
      rintro e w3 ⟨A1, c1, rfl, hr, hb⟩
      have HR1 := Lib.hid hr
      have HB1 := Lib.hid (below_drewN0 hb)
      clear hr hb
      go_wp2_with fail
      refine (IHX.out _).mono ?_
      rintro e w4 ⟨A2, c2, rfl, hr, hb⟩
      have HR2 := Lib.hid hr
      have HR1 := Lib.hid ((HR1.out.below hb).more hb.size)
      have HB2 := Lib.hid (HB1.out.trans (hb.mono HB1.out.size))
      clear hr hb
      go_wp2_with fail
      refine (HFA.out _).mono ?_
      rintro e w5 ⟨A3, c3, rfl, hr, hb⟩
      have HR3 := Lib.hid hr
      have HR1 := Lib.hid ((HR1.out.below hb).more hb.size)
      have HR2 := Lib.hid ((HR2.out.below hb).more hb.size)
      have HB3 := Lib.hid (HB2.out.trans (hb.mono HB2.out.size))
      clear hr hb
      go_wp2_with fail
      refine (HOR.out A2 A1 c2 c1 _ HR2.out HR1.out).mono ?_
      rintro e w9 ⟨A9, c9, rfl, hr, hb⟩
      have HR1 := Lib.hid ((HR1.out.below hb).more hb.size)
      have HR2 := Lib.hid ((HR2.out.below hb).more hb.size)
      have HR3 := Lib.hid ((HR3.out.below hb).more hb.size)
      have HR9 := Lib.hid hr
      have HB9 := Lib.hid (HB3.out.trans (hb.mono HB3.out.size))
      clear hr hb
      go_wp2
      go_ret
      exact ⟨A9, c9, rfl, HR9.out, HB9.out⟩
    · skip
      have eW : withT 5 lo hi X = X := if_pos hs1
      have eO : withoutT 5 lo hi Y = jT 5 (notT (factN 5)) Y := if_neg hs2
      rw [eW] at aW lW aJ lJ ⊢
      rw [eO] at aO lO aJ lJ ⊢
      rw [decide_eq_true hs1, Bool.not_true] at nH
      rw [decide_eq_false hs2, Bool.not_false] at nL
      have HOR := Lib.hid (fun A B c d W h h2 => gOr aW aO (by omega) (by omega) (by omega) A B c d W h h2)
      have HNO := Lib.hid (fun A c W h => gNot AF.out LF.out LN.out A c W h)
      have HAO := Lib.hid (fun A B c d W h h2 => gAnd (all_parts aO).1 aY LN.out (by omega) (by omega) A B c d W h h2)
      clear eW eO hs1 hs2 aW aO aJ lJ lW lO aX aY lX lY HT HZ
      go_enter Tryd.func14, Tryd.ntmps14
      go_wp2_with fail
      refine (hF.out _).mono ?_
      rintro e w2 ⟨rfl, rfl⟩
      go_wp2
      go_quiet (first | (go_at_call 34; exact quiet_same (hFn.out _)))
      go_wp2_with fail
      refine (IHY.out _).mono ?_
      rintro e w3 ⟨A1, c1, rfl, hr, hb⟩
      have HR1 := Lib.hid hr
      have HB1 := Lib.hid (below_drewN0 hb)
      clear hr hb
      go_wp2_with fail
      refine (IHX.out _).mono ?_
      rintro e w4 ⟨A2, c2, rfl, hr, hb⟩
      have HR2 := Lib.hid hr
      have HR1 := Lib.hid ((HR1.out.below hb).more hb.size)
      have HB2 := Lib.hid (HB1.out.trans (hb.mono HB1.out.size))
      clear hr hb
      go_wp2_with fail
      refine (HFA.out _).mono ?_
      rintro e w5 ⟨A3, c3, rfl, hr, hb⟩
      have HR3 := Lib.hid hr
      have HR1 := Lib.hid ((HR1.out.below hb).more hb.size)
      have HR2 := Lib.hid ((HR2.out.below hb).more hb.size)
      have HB3 := Lib.hid (HB2.out.trans (hb.mono HB2.out.size))
      clear hr hb
      go_wp2_with fail
      refine (HNO.out A3 c3 _ HR3.out).mono ?_
      rintro e w7 ⟨A7, c7, rfl, hr, hb⟩
      have HR1 := Lib.hid ((HR1.out.below hb).more hb.size)
      have HR2 := Lib.hid ((HR2.out.below hb).more hb.size)
      have HR3 := Lib.hid ((HR3.out.below hb).more hb.size)
      have HR7 := Lib.hid hr
      have HB7 := Lib.hid (HB3.out.trans (hb.mono HB3.out.size))
      clear hr hb
      go_wp2_with fail
      refine (HAO.out A7 A1 c7 c1 _ HR7.out HR1.out).mono ?_
      rintro e w8 ⟨A8, c8, rfl, hr, hb⟩
      have HR1 := Lib.hid ((HR1.out.below hb).more hb.size)
      have HR2 := Lib.hid ((HR2.out.below hb).more hb.size)
      have HR3 := Lib.hid ((HR3.out.below hb).more hb.size)
      have HR7 := Lib.hid ((HR7.out.below hb).more hb.size)
      have HR8 := Lib.hid hr
      have HB8 := Lib.hid (HB7.out.trans (hb.mono HB7.out.size))
      clear hr hb
      go_wp2_with fail
      refine (HOR.out A2 A8 c2 c8 _ HR2.out HR8.out).mono ?_
      rintro e w9 ⟨A9, c9, rfl, hr, hb⟩
      have HR1 := Lib.hid ((HR1.out.below hb).more hb.size)
      have HR2 := Lib.hid ((HR2.out.below hb).more hb.size)
      have HR3 := Lib.hid ((HR3.out.below hb).more hb.size)
      have HR7 := Lib.hid ((HR7.out.below hb).more hb.size)
      have HR8 := Lib.hid ((HR8.out.below hb).more hb.size)
      have HR9 := Lib.hid hr
      have HB9 := Lib.hid (HB8.out.trans (hb.mono HB8.out.size))
      clear hr hb
      go_wp2
      go_ret
      exact ⟨A9, c9, rfl, HR9.out, HB9.out⟩
  · by_cases hs2 : subB lo hi
    · skip
      have eW : withT 5 lo hi X = jT 5 (factN 5) X := if_neg hs1
      have eO : withoutT 5 lo hi Y = Y := if_pos hs2
      rw [eW] at aW lW aJ lJ ⊢
      rw [eO] at aO lO aJ lJ ⊢
      rw [decide_eq_false hs1, Bool.not_false] at nH
      rw [decide_eq_true hs2, Bool.not_true] at nL
      have HOR := Lib.hid (fun A B c d W h h2 => gOr aW aO (by omega) (by omega) (by omega) A B c d W h h2)
      have HAW := Lib.hid (fun A B c d W h h2 => gAnd AF.out aX LF.out (by omega) (by omega) A B c d W h h2)
      clear eW eO hs1 hs2 aW aO aJ lJ lW lO aX aY lX lY HT HZ
      go_enter Tryd.func14, Tryd.ntmps14
      go_wp2_with fail
      refine (hF.out _).mono ?_
      rintro e w2 ⟨rfl, rfl⟩
      go_wp2
      go_quiet (first | (go_at_call 34; exact quiet_same (hFn.out _)))
      go_wp2_with fail
      refine (IHY.out _).mono ?_
      rintro e w3 ⟨A1, c1, rfl, hr, hb⟩
      have HR1 := Lib.hid hr
      have HB1 := Lib.hid (below_drewN0 hb)
      clear hr hb
      go_wp2_with fail
      refine (IHX.out _).mono ?_
      rintro e w4 ⟨A2, c2, rfl, hr, hb⟩
      have HR2 := Lib.hid hr
      have HR1 := Lib.hid ((HR1.out.below hb).more hb.size)
      have HB2 := Lib.hid (HB1.out.trans (hb.mono HB1.out.size))
      clear hr hb
      go_wp2_with fail
      refine (HFA.out _).mono ?_
      rintro e w5 ⟨A3, c3, rfl, hr, hb⟩
      have HR3 := Lib.hid hr
      have HR1 := Lib.hid ((HR1.out.below hb).more hb.size)
      have HR2 := Lib.hid ((HR2.out.below hb).more hb.size)
      have HB3 := Lib.hid (HB2.out.trans (hb.mono HB2.out.size))
      clear hr hb
      go_wp2_with fail
      refine (HAW.out A3 A2 c3 c2 _ HR3.out HR2.out).mono ?_
      rintro e w6 ⟨A6, c6, rfl, hr, hb⟩
      have HR1 := Lib.hid ((HR1.out.below hb).more hb.size)
      have HR2 := Lib.hid ((HR2.out.below hb).more hb.size)
      have HR3 := Lib.hid ((HR3.out.below hb).more hb.size)
      have HR6 := Lib.hid hr
      have HB6 := Lib.hid (HB3.out.trans (hb.mono HB3.out.size))
      clear hr hb
      go_wp2_with fail
      refine (HOR.out A6 A1 c6 c1 _ HR6.out HR1.out).mono ?_
      rintro e w9 ⟨A9, c9, rfl, hr, hb⟩
      have HR1 := Lib.hid ((HR1.out.below hb).more hb.size)
      have HR2 := Lib.hid ((HR2.out.below hb).more hb.size)
      have HR3 := Lib.hid ((HR3.out.below hb).more hb.size)
      have HR6 := Lib.hid ((HR6.out.below hb).more hb.size)
      have HR9 := Lib.hid hr
      have HB9 := Lib.hid (HB6.out.trans (hb.mono HB6.out.size))
      clear hr hb
      go_wp2
      go_ret
      exact ⟨A9, c9, rfl, HR9.out, HB9.out⟩
    · skip
      have eW : withT 5 lo hi X = jT 5 (factN 5) X := if_neg hs1
      have eO : withoutT 5 lo hi Y = jT 5 (notT (factN 5)) Y := if_neg hs2
      rw [eW] at aW lW aJ lJ ⊢
      rw [eO] at aO lO aJ lJ ⊢
      rw [decide_eq_false hs1, Bool.not_false] at nH
      rw [decide_eq_false hs2, Bool.not_false] at nL
      have HOR := Lib.hid (fun A B c d W h h2 => gOr aW aO (by omega) (by omega) (by omega) A B c d W h h2)
      have HAW := Lib.hid (fun A B c d W h h2 => gAnd AF.out aX LF.out (by omega) (by omega) A B c d W h h2)
      have HNO := Lib.hid (fun A c W h => gNot AF.out LF.out LN.out A c W h)
      have HAO := Lib.hid (fun A B c d W h h2 => gAnd (all_parts aO).1 aY LN.out (by omega) (by omega) A B c d W h h2)
      clear eW eO hs1 hs2 aW aO aJ lJ lW lO aX aY lX lY HT HZ
      go_enter Tryd.func14, Tryd.ntmps14
      go_wp2_with fail
      refine (hF.out _).mono ?_
      rintro e w2 ⟨rfl, rfl⟩
      go_wp2
      go_quiet (first | (go_at_call 34; exact quiet_same (hFn.out _)))
      go_wp2_with fail
      refine (IHY.out _).mono ?_
      rintro e w3 ⟨A1, c1, rfl, hr, hb⟩
      have HR1 := Lib.hid hr
      have HB1 := Lib.hid (below_drewN0 hb)
      clear hr hb
      go_wp2_with fail
      refine (IHX.out _).mono ?_
      rintro e w4 ⟨A2, c2, rfl, hr, hb⟩
      have HR2 := Lib.hid hr
      have HR1 := Lib.hid ((HR1.out.below hb).more hb.size)
      have HB2 := Lib.hid (HB1.out.trans (hb.mono HB1.out.size))
      clear hr hb
      go_wp2_with fail
      refine (HFA.out _).mono ?_
      rintro e w5 ⟨A3, c3, rfl, hr, hb⟩
      have HR3 := Lib.hid hr
      have HR1 := Lib.hid ((HR1.out.below hb).more hb.size)
      have HR2 := Lib.hid ((HR2.out.below hb).more hb.size)
      have HB3 := Lib.hid (HB2.out.trans (hb.mono HB2.out.size))
      clear hr hb
      go_wp2_with fail
      refine (HAW.out A3 A2 c3 c2 _ HR3.out HR2.out).mono ?_
      rintro e w6 ⟨A6, c6, rfl, hr, hb⟩
      have HR1 := Lib.hid ((HR1.out.below hb).more hb.size)
      have HR2 := Lib.hid ((HR2.out.below hb).more hb.size)
      have HR3 := Lib.hid ((HR3.out.below hb).more hb.size)
      have HR6 := Lib.hid hr
      have HB6 := Lib.hid (HB3.out.trans (hb.mono HB3.out.size))
      clear hr hb
      go_wp2_with fail
      refine (HNO.out A3 c3 _ HR3.out).mono ?_
      rintro e w7 ⟨A7, c7, rfl, hr, hb⟩
      have HR1 := Lib.hid ((HR1.out.below hb).more hb.size)
      have HR2 := Lib.hid ((HR2.out.below hb).more hb.size)
      have HR3 := Lib.hid ((HR3.out.below hb).more hb.size)
      have HR6 := Lib.hid ((HR6.out.below hb).more hb.size)
      have HR7 := Lib.hid hr
      have HB7 := Lib.hid (HB6.out.trans (hb.mono HB6.out.size))
      clear hr hb
      go_wp2_with fail
      refine (HAO.out A7 A1 c7 c1 _ HR7.out HR1.out).mono ?_
      rintro e w8 ⟨A8, c8, rfl, hr, hb⟩
      have HR1 := Lib.hid ((HR1.out.below hb).more hb.size)
      have HR2 := Lib.hid ((HR2.out.below hb).more hb.size)
      have HR3 := Lib.hid ((HR3.out.below hb).more hb.size)
      have HR6 := Lib.hid ((HR6.out.below hb).more hb.size)
      have HR7 := Lib.hid ((HR7.out.below hb).more hb.size)
      have HR8 := Lib.hid hr
      have HB8 := Lib.hid (HB7.out.trans (hb.mono HB7.out.size))
      clear hr hb
      go_wp2_with fail
      refine (HOR.out A6 A8 c6 c8 _ HR6.out HR8.out).mono ?_
      rintro e w9 ⟨A9, c9, rfl, hr, hb⟩
      have HR1 := Lib.hid ((HR1.out.below hb).more hb.size)
      have HR2 := Lib.hid ((HR2.out.below hb).more hb.size)
      have HR3 := Lib.hid ((HR3.out.below hb).more hb.size)
      have HR6 := Lib.hid ((HR6.out.below hb).more hb.size)
      have HR7 := Lib.hid ((HR7.out.below hb).more hb.size)
      have HR8 := Lib.hid ((HR8.out.below hb).more hb.size)
      have HR9 := Lib.hid hr
      have HB9 := Lib.hid (HB8.out.trans (hb.mono HB8.out.size))
      clear hr hb
      go_wp2
      go_ret
      exact ⟨A9, c9, rfl, HR9.out, HB9.out⟩
theorem expand_any (n t : Nat) (hn : n ≤ 6) (ht : t < 2 ^ 2 ^ n) (w : World) : Calls Tryd.prog 14 #[.int .u64 (t : Int), .int .i64 (n : Int)] w (GivesT (expT n t) w) := by
  have hc : n = 0 ∨ n = 1 ∨ n = 2 ∨ n = 3 ∨ n = 4 ∨ n = 5 ∨ n = 6 := by omega
  rcases hc with rfl | rfl | rfl | rfl | rfl | rfl | rfl
  · exact expand_0 t ht w
  · exact expand_1 t ht w
  · exact expand_2 t ht w
  · exact expand_3 t ht w
  · exact expand_4 t ht w
  · exact expand_5 t ht w
  · exact expand_6 t ht w
end Go.Proofs.YtcdmchaehafijaaDoor
