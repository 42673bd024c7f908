/- Layer 10: the reference's Resolve. -/
import Derived.Test.YtopkmcoblndokaaNRw
namespace Go.Proofs.Ws
open Go
def outL (p : Int) (l : List Int) : List Int := l.filter (fun x => !(x == p))
theorem outL_len (p : Int) (l : List Int) : (outL p l).length ≤ l.length := List.length_filter_le _ _
theorem out_take {p : Int} {l : List Int} {j : Nat} (h : j < l.length) : outL p (l.take (j + 1)) = outL p (l.take j) ++ (if l.getD j 0 = p then [] else [l.getD j 0]) := by
  have e : l.take (j + 1) = l.take j ++ [l.getD j 0] := by
    rw [List.take_succ_eq_append_getElem h, List.getD_eq_getElem?_getD, List.getElem?_eq_getElem h]; rfl
  unfold outL
  rw [e, List.filter_append]
  congr 1
  generalize l.getD j 0 = x
  by_cases h2 : x = p
  · rw [if_pos h2]; simp [h2]
  · rw [if_neg h2]; simp [h2]
theorem rest_out (a b : List Int) (v : Int) : restL a b v = outL (v + 1) a ++ outL (-(v + 1)) b := rfl
end Go.Proofs.Ws
namespace Go.Proofs.Ytopkmcoblndokaa
open Go.RowKit Go.Proofs.Ws
set_option maxRecDepth 100000
theorem OwJ.up {W : World} {b b2 : Nat} {A : Option Addr} {L : List Int} (h : OwJ W b2 A L) (hb : b ≤ b2) : OwJ W b A L := fun h0 => by
  obtain ⟨g, e, hg, hh⟩ := h h0
  exact ⟨g, e, Nat.le_trans hb hg, hh⟩
set_option maxHeartbeats 8000000 in
theorem rResolve_any (a b : List Int) (v : Int) (A : Option Addr) (k cap : Nat) (A2 : Option Addr) (k2 cap2 : Nat) (w : World) (hR : Reads w w.heap.size 1 A k (ints a)) (hk : k ≤ maxLen) (hR2 : Reads w w.heap.size 1 A2 k2 (ints b)) (hk2 : k2 ≤ maxLen) :
    Calls Try.prog 27 #[.slice A k cap, .slice A2 k2 cap2, .int .i64 v] w (GivesL (resL a b v) (resE a b v) w) := by
  have HB0 := Lib.hid (Below.refl w.heap.size w)
  have HN1 : Hid (∀ W, Below w.heap.size w W → Calls Try.prog 46 #[.slice A k cap, .int .i64 12] W fun e w' => e = .returned (.bool (clE 12 a == 0)) ∧ Below W.heap.size W w') := Lib.hid (fun W hb => rNorm1_any 12 a A k cap _ W (by decide) (by decide) (Nat.le_refl _) ((hR.below hb).more hb.size) hk)
  have HN2 : Hid (∀ W, Below w.heap.size w W → Calls Try.prog 46 #[.slice A2 k2 cap2, .int .i64 12] W fun e w' => e = .returned (.bool (clE 12 b == 0)) ∧ Below W.heap.size W w') := Lib.hid (fun W hb => rNorm1_any 12 b A2 k2 cap2 _ W (by decide) (by decide) (Nat.le_refl _) ((hR2.below hb).more hb.size) hk2)
  by_cases ha : clE 12 a = 0
  case neg =>
    have hE : resE a b v = 1 := by unfold resE; rw [if_pos (.inl ha)]
    have HF : Hid (resE a b v = 1 ∧ resL a b v = []) := Lib.hid ⟨hE, res_bad hE (by decide)⟩
    have q0 : (clE 12 a == 0) = false := by simp [ha]
    rw [q0] at HN1
    clear hE hR hR2 ha HN2 q0
    go_enter Try.func27, Try.ntmps27
    go_wp2_with fail
    refine (HN1.out _ HB0.out).mono ?_
    rintro e w1 ⟨rfl, hb⟩
    have HB1 := Lib.hid (belowNext HB0.out hb)
    clear hb
    go_wp2
    go_ret2
    exact ⟨none, 0, by rw [HF.out.1, HF.out.2]; rfl, by rw [HF.out.2]; exact OwJ.nil _ _ _, by rw [HF.out.2]; exact Nat.le_refl _, HB1.out⟩
  case pos =>
  have q0 : (clE 12 a == 0) = true := by simp [ha]
  rw [q0] at HN1
  clear q0
  by_cases hb : clE 12 b = 0
  case neg =>
    have hE : resE a b v = 1 := by unfold resE; rw [if_pos (.inr hb)]
    have HF : Hid (resE a b v = 1 ∧ resL a b v = []) := Lib.hid ⟨hE, res_bad hE (by decide)⟩
    have q0 : (clE 12 b == 0) = false := by simp [hb]
    rw [q0] at HN2
    clear hE hR hR2 ha hb q0
    go_enter Try.func27, Try.ntmps27
    go_wp2_with fail
    refine (HN1.out _ HB0.out).mono ?_
    rintro e w1 ⟨rfl, hb⟩
    have HB1 := Lib.hid (belowNext HB0.out hb)
    clear hb
    go_wp2_with fail
    refine (HN2.out _ HB1.out).mono ?_
    rintro e w2 ⟨rfl, hb⟩
    have HB2 := Lib.hid (belowNext HB1.out hb)
    clear hb
    go_wp2
    go_ret2
    exact ⟨none, 0, by rw [HF.out.1, HF.out.2]; rfl, by rw [HF.out.2]; exact OwJ.nil _ _ _, by rw [HF.out.2]; exact Nat.le_refl _, HB2.out⟩
  case pos =>
  have q0 : (clE 12 b == 0) = true := by simp [hb]
  rw [q0] at HN2
  clear q0
  have hS : resE a b v = if v < 0 ∨ 12 ≤ v then 6 else if v + 1 ∉ a ∨ -(v + 1) ∉ b then 6 else if alwB (restL a b v) = true then 10 else 0 := by unfold resE; rw [if_neg (by rintro (h | h) <;> exact absurd (by assumption) h)]
  have hoa := clE_ok (n := 12).1 ha
  have hob := clE_ok (n := 12).1 hb
  by_cases h0 : v < 0
  case pos =>
    have hE : resE a b v = 6 := by rw [hS, if_pos (.inl h0)]
    have HF : Hid (resE a b v = 6 ∧ resL a b v = []) := Lib.hid ⟨hE, res_bad hE (by decide)⟩
    have q1 : decide (v < 0) = true := decide_eq_true h0
    clear hE hR hR2 ha hb hS hoa hob
    go_enter Try.func27, Try.ntmps27
    go_wp2_with fail
    refine (HN1.out _ HB0.out).mono ?_
    rintro e w1 ⟨rfl, hb⟩
    have HB1 := Lib.hid (belowNext HB0.out hb)
    clear hb
    go_wp2_with fail
    refine (HN2.out _ HB1.out).mono ?_
    rintro e w2 ⟨rfl, hb⟩
    have HB2 := Lib.hid (belowNext HB1.out hb)
    clear hb
    go_wp2
    go_ret2
    exact ⟨none, 0, by rw [HF.out.1, HF.out.2]; rfl, by rw [HF.out.2]; exact OwJ.nil _ _ _, by rw [HF.out.2]; exact Nat.le_refl _, HB2.out⟩
  case neg =>
  have q1 : decide (v < 0) = false := decide_eq_false h0
  by_cases h12 : 12 ≤ v
  case pos =>
    have hE : resE a b v = 6 := by rw [hS, if_pos (.inr h12)]
    have HF : Hid (resE a b v = 6 ∧ resL a b v = []) := Lib.hid ⟨hE, res_bad hE (by decide)⟩
    have q2 : decide (12 ≤ v) = true := decide_eq_true h12
    clear hE hR hR2 ha hb hS hoa hob
    go_enter Try.func27, Try.ntmps27
    go_wp2_with fail
    refine (HN1.out _ HB0.out).mono ?_
    rintro e w1 ⟨rfl, hb⟩
    have HB1 := Lib.hid (belowNext HB0.out hb)
    clear hb
    go_wp2_with fail
    refine (HN2.out _ HB1.out).mono ?_
    rintro e w2 ⟨rfl, hb⟩
    have HB2 := Lib.hid (belowNext HB1.out hb)
    clear hb
    go_wp2
    go_ret2
    exact ⟨none, 0, by rw [HF.out.1, HF.out.2]; rfl, by rw [HF.out.2]; exact OwJ.nil _ _ _, by rw [HF.out.2]; exact Nat.le_refl _, HB2.out⟩
  case neg =>
  have q2 : decide (12 ≤ v) = false := decide_eq_false h12
  rw [if_neg (by omega)] at hS
  have p1 : IntKind.i64.wrap (v + 1) = v + 1 := by simp [IntKind.wrap, IntKind.bits, IntKind.signed]; omega
  have p2 : IntKind.i64.wrap (-v) = -v := by simp [IntKind.wrap, IntKind.bits, IntKind.signed]; omega
  have p3 : IntKind.i64.wrap (-v - 1) = -v - 1 := by simp [IntKind.wrap, IntKind.bits, IntKind.signed]; omega
  have HH1 : Hid (∀ W, Below w.heap.size w W → Calls Try.prog 51 #[.slice A k cap, .int .i64 (v + 1)] W fun e w' => e = .returned (.bool (decide (v + 1 ∈ a))) ∧ W = w') := Lib.hid (fun W hb => rHas_any a (v + 1) A k cap _ W (hR.below hb) hk)
  have HH2 : Hid (∀ W, Below w.heap.size w W → Calls Try.prog 51 #[.slice A2 k2 cap2, .int .i64 (-v - 1)] W fun e w' => e = .returned (.bool (decide (-v - 1 ∈ b))) ∧ W = w') := Lib.hid (fun W hb => rHas_any b (-v - 1) A2 k2 cap2 _ W (hR2.below hb) hk2)
  rw [show -(v + 1) = -v - 1 from by omega] at hS
  by_cases hma : v + 1 ∈ a
  case neg =>
    have hE : resE a b v = 6 := by rw [hS, if_pos (.inl hma)]
    have HF : Hid (resE a b v = 6 ∧ resL a b v = []) := Lib.hid ⟨hE, res_bad hE (by decide)⟩
    rw [decide_eq_false hma] at HH1
    clear hE hR hR2 ha hb hS hoa hob hma
    go_enter Try.func27, Try.ntmps27
    go_wp2_with fail
    refine (HN1.out _ HB0.out).mono ?_
    rintro e w1 ⟨rfl, hb⟩
    have HB1 := Lib.hid (belowNext HB0.out hb)
    clear hb
    go_wp2_with fail
    refine (HN2.out _ HB1.out).mono ?_
    rintro e w2 ⟨rfl, hb⟩
    have HB2 := Lib.hid (belowNext HB1.out hb)
    clear hb
    go_wp2_with fail
    refine (HH1.out _ HB2.out).mono ?_
    rintro e w9 ⟨rfl, rfl⟩
    go_wp2
    go_ret2
    exact ⟨none, 0, by rw [HF.out.1, HF.out.2]; rfl, by rw [HF.out.2]; exact OwJ.nil _ _ _, by rw [HF.out.2]; exact Nat.le_refl _, HB2.out⟩
  case pos =>
  rw [decide_eq_true hma] at HH1
  by_cases hmb : -v - 1 ∈ b
  case neg =>
    have hE : resE a b v = 6 := by rw [hS, if_pos (.inr hmb)]
    have HF : Hid (resE a b v = 6 ∧ resL a b v = []) := Lib.hid ⟨hE, res_bad hE (by decide)⟩
    rw [decide_eq_false hmb] at HH2
    clear hE hR hR2 ha hb hS hoa hob hma hmb
    go_enter Try.func27, Try.ntmps27
    go_wp2_with fail
    refine (HN1.out _ HB0.out).mono ?_
    rintro e w1 ⟨rfl, hb⟩
    have HB1 := Lib.hid (belowNext HB0.out hb)
    clear hb
    go_wp2_with fail
    refine (HN2.out _ HB1.out).mono ?_
    rintro e w2 ⟨rfl, hb⟩
    have HB2 := Lib.hid (belowNext HB1.out hb)
    clear hb
    go_wp2_with fail
    refine (HH1.out _ HB2.out).mono ?_
    rintro e w9 ⟨rfl, rfl⟩
    go_wp2_with fail
    refine (HH2.out _ HB2.out).mono ?_
    rintro e w9 ⟨rfl, rfl⟩
    go_wp2
    go_ret2
    exact ⟨none, 0, by rw [HF.out.1, HF.out.2]; rfl, by rw [HF.out.2]; exact OwJ.nil _ _ _, by rw [HF.out.2]; exact Nat.le_refl _, HB2.out⟩
  case pos =>
  rw [decide_eq_true hmb] at HH2
  rw [if_neg (by rintro (h | h) <;> exact h (by assumption))] at hS
  have HLR := Lib.hid (rest_lits (v := v) (Nat.le_refl 12) hoa hob)
  have HS := Lib.hid hS
  have hro : restL a b v = outL (v + 1) a ++ outL (-v - 1) b := by rw [rest_out, show -(v + 1) = -v - 1 from by omega]
  have HRO := Lib.hid hro
  have hka := hR.int_len
  have hkb := hR2.int_len
  have hk12 : k ≤ 12 := by have := hoa.len; omega
  have hk212 : k2 ≤ 12 := by have := hob.len; omega
  have HLA := Lib.hid hka
  have HLB := Lib.hid hkb
  have HRA := Lib.hid hR
  have HRB := Lib.hid hR2
  have hol : (outL (v + 1) a).length ≤ 12 := by have := outL_len (v + 1) a; omega
  obtain ⟨i0, hi, hq0, hq1, hq2⟩ := info_parts Try.infoI
  clear hR hR2 ha hb hS hoa hob hma hmb hro hka hkb hk hk2
  go_enter Try.func27, Try.ntmps27
  go_wp2_with fail
  refine (HN1.out _ HB0.out).mono ?_
  rintro e w1 ⟨rfl, hb⟩
  have HB1 := Lib.hid (belowNext HB0.out hb)
  clear hb
  go_wp2_with fail
  refine (HN2.out _ HB1.out).mono ?_
  rintro e w2 ⟨rfl, hb⟩
  have HB2 := Lib.hid (belowNext HB1.out hb)
  clear hb
  go_wp2_with fail
  refine (HH1.out _ HB2.out).mono ?_
  rintro e w9 ⟨rfl, rfl⟩
  go_wp2_with fail
  refine (HH2.out _ HB2.out).mono ?_
  rintro e w9 ⟨rfl, rfl⟩
  clear HN1 HN2 HH1 HH2
  go_wp2
  go_loopw [8, 9] (fun V i wr => ∃ j : Nat, j ≤ k ∧ i = .int .i64 j ∧ Hid (wr.ownsRow w.heap.size 3 1 V (outL (v + 1) (a.take j)).length (ints (outL (v + 1) (a.take j)))) ∧ Hid (Below w.heap.size w wr)) (fun _ i _ => k - (intOf i).toNat)
  case atStart => exact ⟨0, Nat.zero_le _, rfl, Lib.hid (World.ownsRow_nil _ _ _ _), HB2⟩
  case round =>
    obtain ⟨j, hj, rfl, HOW, HO⟩ := hrel
    by_cases hlt : j < k
    · obtain ⟨ad, rfl, _, hcj⟩ := ((HRA.out.below HO.out).more HO.out.size).int_at hlt
      have hst := out_take (p := v + 1) (l := a) (j := j) (by have := HLA.out; omega)
      have hpl : (outL (v + 1) (a.take j)).length ≤ 30 := by have h1 := outL_len (v + 1) (a.take j); rw [List.length_take] at h1; omega
      by_cases hxp : a.getD j 0 = v + 1
      · rw [if_pos hxp, List.append_nil] at hst
        have q1 : (a.getD j 0 != v + 1) = false := by rw [hxp, bne_self_eq_false]
        rw [← hst] at HOW
        generalize a.getD j 0 = x at *
        clear hst hxp hpl
        go_wp2
        go_roundw
        case rel => exact ⟨j + 1, by omega, by go_num, HOW, HO⟩
        case measure => first | (simp [intOf]; done) | (simp [intOf]; omega)
      · rw [if_neg hxp] at hst
        have q1 : (a.getD j 0 != v + 1) = true := bne_iff_ne.2 hxp
        generalize a.getD j 0 = x at *
        have HST := Lib.hid hst
        clear hst hxp
        go_wp2_with (at_builtin; refine wpList_append_own _ rfl _ _ 23 rfl w.heap.size 3 i0 (.int .i64 0) 1 8 Try.underlying23 hi hq0 hq1 hq2 rfl (by decide) _ _ _ rfl (HOW.out.alloc _) ⟨wr.heap.size, 0, none⟩ 1 1 [.int .i64 x] rfl rfl ?c1 ?c2 ?c3 ?c4 ?c5 ?_)
        case c1 =>
          intro j u hj
          match j, hj with
          | 0, hj => simp at hj; subst hj; simp [Addr.add]
        case c2 => intro u hu; simp at hu; subst hu; rfl
        case c3 => unfold maxLen; omega
        case c4 => omega
        case c5 => have := HO.out.size; simp; omega
        intro v' w6 hown' hgrow _
        have HB6 := Lib.hid ((HO.out.alloc HO.out.size _).grown hgrow (by have := HO.out.size; simp; omega) (fun j hj => (HOW.out.lt j hj).1))
        have HO6 : Hid (w6.ownsRow w.heap.size 3 1 v' (outL (v + 1) (a.take (j + 1))).length (ints (outL (v + 1) (a.take (j + 1))))) := Lib.hid (by rw [HST.out, List.length_append, ints_append]; exact hown')
        clear hgrow hown' HOW HO HST
        go_wp2
        go_roundw
        case rel => exact ⟨j + 1, by omega, by go_num, HO6, HB6⟩
        case measure => first | (simp [intOf]; done) | (simp [intOf]; omega)
    · obtain rfl : j = k := by omega
      rw [List.take_of_length_le (by have := HLA.out; omega)] at HOW
      have HOW1 := HOW
      rw [show outL (v + 1) a = outL (v + 1) a ++ outL (-v - 1) (b.take 0) from (List.append_nil _).symm] at HOW1
      clear HOW
      go_wp2
      go_loopw [8, 10] (fun V i wr => ∃ j : Nat, j ≤ k2 ∧ i = .int .i64 j ∧ Hid (wr.ownsRow w.heap.size 3 1 V (outL (v + 1) a ++ outL (-v - 1) (b.take j)).length (ints (outL (v + 1) a ++ outL (-v - 1) (b.take j)))) ∧ Hid (Below w.heap.size w wr)) (fun _ i _ => k2 - (intOf i).toNat)
      case atStart => exact ⟨0, Nat.zero_le _, rfl, HOW1, HO⟩
      case round =>
        obtain ⟨j, hj, rfl, HOW, HO⟩ := hrel
        by_cases hlt : j < k2
        · obtain ⟨ad, rfl, _, hcj⟩ := ((HRB.out.below HO.out).more HO.out.size).int_at hlt
          have hst := out_take (p := -v - 1) (l := b) (j := j) (by have := HLB.out; omega)
          have hpl : (outL (v + 1) a ++ outL (-v - 1) (b.take j)).length ≤ 30 := by rw [List.length_append]; have h1 := outL_len (-v - 1) (b.take j); rw [List.length_take] at h1; omega
          by_cases hxp : b.getD j 0 = -v - 1
          · rw [if_pos hxp, List.append_nil] at hst
            have q1 : (b.getD j 0 != -v - 1) = false := by rw [hxp, bne_self_eq_false]
            rw [← hst] at HOW
            generalize b.getD j 0 = x at *
            clear hst hxp hpl
            go_wp2
            go_roundw
            case rel => exact ⟨j + 1, by omega, by go_num, HOW, HO⟩
            case measure => first | (simp [intOf]; done) | (simp [intOf]; omega)
          · rw [if_neg hxp] at hst
            have q1 : (b.getD j 0 != -v - 1) = true := bne_iff_ne.2 hxp
            generalize b.getD j 0 = x at *
            have HST := Lib.hid hst
            clear hst hxp
            go_wp2_with (at_builtin; refine wpList_append_own _ rfl _ _ 23 rfl w.heap.size 3 i0 (.int .i64 0) 1 8 Try.underlying23 hi hq0 hq1 hq2 rfl (by decide) _ _ _ rfl (HOW.out.alloc _) ⟨wr.heap.size, 0, none⟩ 1 1 [.int .i64 x] rfl rfl ?c1 ?c2 ?c3 ?c4 ?c5 ?_)
            case c1 =>
              intro j u hj
              match j, hj with
              | 0, hj => simp at hj; subst hj; simp [Addr.add]
            case c2 => intro u hu; simp at hu; subst hu; rfl
            case c3 => unfold maxLen; omega
            case c4 => omega
            case c5 => have := HO.out.size; simp; omega
            intro v' w6 hown' hgrow _
            have HB6 := Lib.hid ((HO.out.alloc HO.out.size _).grown hgrow (by have := HO.out.size; simp; omega) (fun j hj => (HOW.out.lt j hj).1))
            have HO6 : Hid (w6.ownsRow w.heap.size 3 1 v' (outL (v + 1) a ++ outL (-v - 1) (b.take (j + 1))).length (ints (outL (v + 1) a ++ outL (-v - 1) (b.take (j + 1))))) := Lib.hid (by rw [HST.out, ← List.append_assoc, List.length_append, ints_append, List.length_append]; exact hown')
            clear hgrow hown' HOW HO HST
            go_wp2
            go_roundw
            case rel => exact ⟨j + 1, by omega, by go_num, HO6, HB6⟩
            case measure => first | (simp [intOf]; done) | (simp [intOf]; omega)
        · obtain rfl : j = k2 := by omega
          rw [List.take_of_length_le (by have := HLB.out; omega), ← HRO.out] at HOW
          obtain ⟨A9, c9, e9, h10, h11⟩ := own_ow HOW.out
          subst e9
          have HCO := Lib.hid (rCollect_any (restL a b v) A9 (restL a b v).length c9 _ wr HLR.out (Nat.le_refl _) h10.reads (by rw [HRO.out, List.length_append]; have := outL_len (-v - 1) b; have := HLB.out; unfold maxLen; omega))
          cases hal : alwB (restL a b v) with
          | true =>
            have hE : resE a b v = 10 := by rw [HS.out, if_pos hal]
            have HF : Hid (resE a b v = 10 ∧ resL a b v = []) := Lib.hid ⟨hE, res_bad hE (by decide)⟩
            rw [hal] at HCO
            generalize (restL a b v).length = n9 at *
            clear hal hE h10 h11 HOW
            go_wp2_with fail
            refine HCO.out.mono ?_
            rintro e w8 ⟨A5, c5, rfl, ho, hc, hb⟩
            have HB8 := Lib.hid (belowNext HO.out hb)
            clear ho hc hb
            go_wp2
            go_ret2
            exact ⟨none, 0, by rw [HF.out.1, HF.out.2]; rfl, by rw [HF.out.2]; exact OwJ.nil _ _ _, by rw [HF.out.2]; exact Nat.le_refl _, HB8.out⟩
          | false =>
            have hE : resE a b v = 0 := by rw [HS.out, if_neg (by rw [hal]; decide)]
            have hL : resL a b v = colL (restL a b v) := by unfold resL colL; rw [if_pos hE, if_neg (by rw [hal]; decide)]
            have HF : Hid (resE a b v = 0 ∧ resL a b v = colL (restL a b v)) := Lib.hid ⟨hE, hL⟩
            rw [hal] at HCO
            generalize (restL a b v).length = n9 at *
            generalize restL a b v = RL at *
            clear hal hE h10 h11 HOW hL
            go_wp2_with fail
            refine HCO.out.mono ?_
            rintro e w8 ⟨A5, c5, rfl, ho, hc, hb⟩
            have HB8 := Lib.hid (belowNext HO.out hb)
            have HX := Lib.hid (⟨ho.up (Nat.le_trans HO.out.size (Nat.le_refl _)), hc⟩ : OwJ w8 w.heap.size A5 (colL RL) ∧ _)
            clear ho hc hb
            go_wp2
            go_ret2
            exact ⟨A5, c5, by rw [HF.out.1, HF.out.2]; rfl, by rw [HF.out.2]; exact HX.out.1, by rw [HF.out.2]; exact HX.out.2, HB8.out⟩
end Go.Proofs.Ytopkmcoblndokaa
