/- Layer 8: the rules of simplification as the reference applies them: mathematics, opposed, constants. -/
import Derived.Test.YtkkkomkljpolbaaDoorGza
import Derived.Test.YtkkkomkljpolbaaDoorQq
namespace Go.Proofs.YtkkkomkljpolbaaDoor
open Go.RowKit Go.Proofs.Ws Go.Maps
set_option maxRecDepth 100000
/-- the result of a rule, or nothing where no rule fits -/
def oL : Option Tr → List Nd
  | none => []
  | some t => canT t
def sBoolO (op : Int) (a b : Tr) : Option Tr :=
  if op = 5 ∧ (topT a = 2 ∨ topT b = 2 ∨ oppT a b ∧ topT a ≠ 1 ∧ topT b ≠ 1) then some (cT 2)
  else if op = 5 ∧ topT a = 1 then some b
  else if op = 5 ∧ (topT b = 1 ∨ a = b) then some a
  else if op = 6 ∧ (topT a = 1 ∨ topT b = 1 ∨ oppT a b ∧ topT a ≠ 2 ∧ topT b ≠ 2) then some (cT 1)
  else if op = 6 ∧ topT a = 2 then some b
  else if op = 6 ∧ (topT b = 2 ∨ a = b) then some a
  else if op = 7 ∧ (topT a = 2 ∨ topT b = 1 ∨ a = b) then some (cT 1)
  else if op = 7 ∧ topT a = 1 then some b
  else if op = 7 ∧ topT b = 2 then some (negT a)
  else if op ≠ 8 then none
  else if a = b then some (cT 1) else if oppT a b then some (cT 2) else if topT a = 1 then some b else if topT b = 1 then some a else if topT a = 2 then some (negT b) else if topT b = 2 then some (negT a) else none
def sModO (op : Int) (a b : Tr) : Option Tr :=
  if op = 4 then (if topT a = 1 then some (cT 2) else if topT a = 2 then some (cT 1) else if topT a = 4 then some (negT a) else none)
  else if boxOp op = true then (if topT a = 1 then some a else none)
  else if op = 10 then (if topT a = 2 then some a else none)
  else if op = 13 ∨ op = 14 ∨ op = 16 then (if topT a = 2 ∨ topT b = 1 then some (cT 1) else if op = 16 ∧ topT a = 1 then some b else none)
  else none
def simO (op : Int) (a b : Tr) : Option Tr := if 5 ≤ op ∧ op ≤ 8 then sBoolO op a b else sModO op a b
theorem opt_ite {c : Prop} [Decidable c] (x y : Option Tr) (d : Tr) : (if c then x else y).getD d = if c then x.getD d else y.getD d := by split <;> rfl
theorem simO_get (n : Nd) (a b : Tr) : simR n a b = (simO n.op a b).getD (mkT n a b) := by
  unfold simR simO sBoolR sBoolO sModR sModO
  simp only [opt_ite, Option.getD_some, Option.getD_none]
theorem topF_can {s : Tr} (hs : AllOk s) : topF (canT s) = topT s := by
  have hp := List.length_pos_iff.2 (canT_ne s)
  unfold topF
  rw [← topT_at (canT_ops hs.1) (by omega), canT_tree hs.1]
theorem neg_can8 {s : Tr} (hs : AllOk s) (hl : (canT s).length ≤ 199) : mapF negT (canT s) = canT (negT s) := by
  have hc := cn_can hs (by omega)
  have hn := neg_len hs
  have h3 : mapF negT (canT s) = resL (negT (tOf (canT s))) := if_pos hc.1
  rw [h3, tOf_canT hs.1, resL_short (by omega)]
theorem not_neg {s : Tr} (hs : AllOk s) (h4 : topT s = 4) : s = notT (negT s) := by
  cases s with
  | leaf n => have h1 := hs.1.1; have : n.op = 4 := h4; rw [this] at h1; cases h1
  | bin n a b => have h1 := hs.1.2.1; have : n.op = 4 := h4; rw [this] at h1; cases h1
  | un n a =>
    have e : negT (.un n a) = a := if_pos (show n.op = 4 from h4)
    rw [e, not_node (show fldOk n from hs.2.1) hs.1.2.2.1 h4]
    rfl
theorem opp_iff {s t : Tr} (hs : AllOk s) (ht : AllOk t) : oppT s t ↔ (topT s = 4 ∧ negT s = t) ∨ (topT t = 4 ∧ negT t = s) := by
  have e : ∀ a : Tr, topT (notT a) = 4 ∧ negT (notT a) = a := fun a => ⟨rfl, rfl⟩
  constructor
  · rintro (h | h)
    · rw [h]; exact .inl (e t)
    · rw [h]; exact .inr (e s)
  · rintro (⟨h1, h2⟩ | ⟨h1, h2⟩)
    · rw [← h2]; exact .inl (not_neg hs h1)
    · rw [← h2]; exact .inr (not_neg ht h1)
theorem opp_last {s : Tr} (hs : AllOk s) (hl : (canT s).length ≤ 199) (h4 : topT s = 4) : ∃ x : Nat, ((canT s).getD ((canT s).length - 1) nd0).x = (x : Int) ∧ subF (canT s) x = canT (negT s) := by
  have hc := cn_can hs (by omega)
  have h := opp_sub hc.1 (by rw [hc.2.1, topF_can hs]; exact h4)
  rw [hc.2.1, neg_can8 hs hl] at h
  exact h
theorem same_can8 {s t : Tr} (hs : AllOk s) (ht : AllOk t) (ls : (canT s).length ≤ 200) (lt : (canT t).length ≤ 200) : sameF (canT s) (canT t) = decide (s = t) := by
  rw [same_cn (cn_can hs ls) (cn_can ht lt)]
  by_cases e : s = t
  · rw [decide_eq_true e, decide_eq_true (by rw [e])]
  · rw [decide_eq_false e, decide_eq_false (fun k => e (canT_inj hs.1 ht.1 k))]
theorem can_c (op : Int) (h : op = 1 ∨ op = 2) : canT (cT op) = [⟨op, 0, 0, 0, 0, 0⟩] ∧ oneF ⟨op, 0, 0, 0, 0, 0⟩ = [⟨op, 0, 0, 0, 0, 0⟩] := by
  rcases h with rfl | rfl
  · exact ⟨rfl, by decide⟩
  · exact ⟨rfl, by decide⟩
theorem rTrue_own8 (w : World) :
    Calls Tryd.prog 57 #[] w fun e w' => ∃ A' c', e = .returned (.slice A' (canT (cT 1)).length c') ∧ w'.ownsRow 0 62 6 (.slice A' (canT (cT 1)).length c') (canT (cT 1)).length (nds (canT (cT 1))) ∧ Below w.heap.size w w' := by
  have HC := Lib.hid (rOne_own ⟨1, 0, 0, 0, 0, 0⟩ w)
  rw [(can_c 1 (by decide)).2, ← (can_c 1 (by decide)).1] at HC
  unfold nv at HC
  generalize canT (cT 1) = q at *
  dsimp only at HC
  go_enter Tryd.func57, Tryd.ntmps57
  go_wp2_with fail
  refine (HC.out).mono ?_
  rintro e w2 ⟨A', c', rfl, hR2, hb2⟩
  have HR2 := Lib.hid hR2
  have HB2 := Lib.hid hb2
  clear hR2 hb2
  go_wp2
  go_ret
  exact ⟨A', c', rfl, HR2.out, HB2.out⟩
theorem rFalse_own8 (w : World) :
    Calls Tryd.prog 126 #[] w fun e w' => ∃ A' c', e = .returned (.slice A' (canT (cT 2)).length c') ∧ w'.ownsRow 0 62 6 (.slice A' (canT (cT 2)).length c') (canT (cT 2)).length (nds (canT (cT 2))) ∧ Below w.heap.size w w' := by
  have HC := Lib.hid (rOne_own ⟨2, 0, 0, 0, 0, 0⟩ w)
  rw [(can_c 2 (by decide)).2, ← (can_c 2 (by decide)).1] at HC
  unfold nv at HC
  generalize canT (cT 2) = q at *
  dsimp only at HC
  go_enter Tryd.func126, Tryd.ntmps126
  go_wp2_with fail
  refine (HC.out).mono ?_
  rintro e w2 ⟨A', c', rfl, hR2, hb2⟩
  have HR2 := Lib.hid hR2
  have HB2 := Lib.hid hb2
  clear hR2 hb2
  go_wp2
  go_ret
  exact ⟨A', c', rfl, HR2.out, HB2.out⟩
set_option maxHeartbeats 8000000 in
theorem rOpposed_any (s t : Tr) (hs : AllOk s) (ht : AllOk t) (ls : (canT s).length ≤ 199) (lt : (canT t).length ≤ 199) (A B : Option Addr) (ca cb : Nat) (w : World) (hA : Reads w w.heap.size 6 A (canT s).length (nds (canT s))) (hB : Reads w w.heap.size 6 B (canT t).length (nds (canT t))) :
    Calls Tryd.prog 128 #[.slice A (canT s).length ca, .slice B (canT t).length cb] w fun e w' => e = .returned (.bool (decide (oppT s t))) ∧ Below w.heap.size w w' := by
  have HA := Lib.hid hA
  have HB := Lib.hid hB
  clear hA hB
  have HBZ : Hid (Below w.heap.size w w) := Lib.hid (Below.refl _ _)
  by_cases h4s : topT s = 4
  · by_cases he : negT s = t
    · obtain ⟨xs, hxs, hss⟩ := opp_last hs (by omega) h4s
      have HTs := Lib.hid (fun (W : World) (h : Reads W W.heap.size 6 A (canT s).length (nds (canT s))) => by
        have := top_any (canT s) A (canT s).length ca W h (canT_ne s) (by unfold maxLen; omega)
        rw [topF_can hs, h4s] at this
        exact this)
      have CSs := Lib.hid (fun (W : World) (h : Reads W W.heap.size 6 A (canT s).length (nds (canT s))) => by
        have := rSub_own (canT s) (xs : Int) A (canT s).length ca W h (by unfold maxLen; omega)
        rw [hss] at this
        exact this)
      have CEs := Lib.hid (fun (W : World) (A' : Option Addr) (c' : Nat) (h1 : Reads W W.heap.size 6 A' (canT (negT s)).length (nds (canT (negT s)))) (h2 : Reads W W.heap.size 6 B (canT t).length (nds (canT t))) => by
        have := rSame_any (canT (negT s)) (canT t) A' B (canT (negT s)).length (canT t).length c' cb W h1 h2 (by have := neg_len hs; unfold maxLen; omega) (by unfold maxLen; omega)
        rw [same_can8 (all_neg hs) ht (by have := neg_len hs; omega) (by omega)] at this
        exact this)
      obtain ⟨ms, hms⟩ : ∃ m, (canT s).length = m + 1 := ⟨(canT s).length - 1, by have := List.length_pos_iff.2 (canT_ne s); omega⟩
      have hmns : ms < (canT s).length := by omega
      rw [show (canT s).length - 1 = ms by omega] at hxs
      have HXs := Lib.hid hxs
      have hv1s : wrap64 (((canT s).length : Int) - 1) = (ms : Int) := by unfold wrap64; omega
      have hv2s : IntKind.i64.wrap (((canT s).length : Int) - 1) = (ms : Int) := by rw [IntKind.wrap_i64]; omega
      have hv3s : ((canT s).length : Int) - 1 = (ms : Int) := by omega
      have hv4s : wrap64 (ms : Int) = (ms : Int) := by unfold wrap64; omega
      clear hxs hss hms
      have HD : Hid (decide (oppT s t) = true) := Lib.hid (decide_eq_true ((opp_iff hs ht).2 (.inl ⟨h4s, he⟩)))
      rw [decide_eq_true he] at CEs
      rw [HD.out]
      clear HD h4s hs ht he
      generalize canT (negT s) = ns at *
      obtain ⟨aA, eAs, _⟩ := HA.out.nd_at hmns
      subst eAs
      generalize topT s = ts at *
      generalize topT t = tt at *
      generalize canT s = la at *
      generalize canT t = lb at *
      go_enter Tryd.func128, Tryd.ntmps128
      obtain ⟨aq1, eq1, _, _, _, _, _, k4, _⟩ := HA.out.nd_at hmns
      rw [HXs.out] at k4
      have k4b := add_cell k4
      obtain rfl := Option.some.inj eq1
      go_wp2_with fail
      refine (HTs.out _ HA.out).mono ?_
      rintro r wq ⟨rfl, rfl⟩
      go_wp2_with fail
      refine (CSs.out _ HA.out).mono ?_
      rintro r w1a ⟨A1, c1, rfl, ho, hb⟩
      have HO1 := Lib.hid ho
      have HBa1 := Lib.hid (HBZ.out.trans (hb.mono HBZ.out.size))
      have HRo1 := Lib.hid ((HB.out.below hb).more hb.size)
      have HRs1 := Lib.hid ((HA.out.below hb).more hb.size)
      clear ho hb k4 k4b
      go_wp2_with fail
      refine (CEs.out w1a A1 c1 (Reads.of_own HO1.out) HRo1.out).mono ?_
      rintro r w1b ⟨rfl, hb⟩
      have HB1x := Lib.hid (HBa1.out.trans (hb.mono HBa1.out.size))
      have HRo1x := Lib.hid ((HRo1.out.below hb).more hb.size)
      have HRs1x := Lib.hid ((HRs1.out.below hb).more hb.size)
      clear hb
      go_wp2
      go_ret
      exact ⟨rfl, HB1x.out⟩
    · by_cases h4t : topT t = 4
      · obtain ⟨xs, hxs, hss⟩ := opp_last hs (by omega) h4s
        have HTs := Lib.hid (fun (W : World) (h : Reads W W.heap.size 6 A (canT s).length (nds (canT s))) => by
          have := top_any (canT s) A (canT s).length ca W h (canT_ne s) (by unfold maxLen; omega)
          rw [topF_can hs, h4s] at this
          exact this)
        have CSs := Lib.hid (fun (W : World) (h : Reads W W.heap.size 6 A (canT s).length (nds (canT s))) => by
          have := rSub_own (canT s) (xs : Int) A (canT s).length ca W h (by unfold maxLen; omega)
          rw [hss] at this
          exact this)
        have CEs := Lib.hid (fun (W : World) (A' : Option Addr) (c' : Nat) (h1 : Reads W W.heap.size 6 A' (canT (negT s)).length (nds (canT (negT s)))) (h2 : Reads W W.heap.size 6 B (canT t).length (nds (canT t))) => by
          have := rSame_any (canT (negT s)) (canT t) A' B (canT (negT s)).length (canT t).length c' cb W h1 h2 (by have := neg_len hs; unfold maxLen; omega) (by unfold maxLen; omega)
          rw [same_can8 (all_neg hs) ht (by have := neg_len hs; omega) (by omega)] at this
          exact this)
        obtain ⟨ms, hms⟩ : ∃ m, (canT s).length = m + 1 := ⟨(canT s).length - 1, by have := List.length_pos_iff.2 (canT_ne s); omega⟩
        have hmns : ms < (canT s).length := by omega
        rw [show (canT s).length - 1 = ms by omega] at hxs
        have HXs := Lib.hid hxs
        have hv1s : wrap64 (((canT s).length : Int) - 1) = (ms : Int) := by unfold wrap64; omega
        have hv2s : IntKind.i64.wrap (((canT s).length : Int) - 1) = (ms : Int) := by rw [IntKind.wrap_i64]; omega
        have hv3s : ((canT s).length : Int) - 1 = (ms : Int) := by omega
        have hv4s : wrap64 (ms : Int) = (ms : Int) := by unfold wrap64; omega
        clear hxs hss hms
        obtain ⟨xt, hxt, hst⟩ := opp_last ht (by omega) h4t
        have HTt := Lib.hid (fun (W : World) (h : Reads W W.heap.size 6 B (canT t).length (nds (canT t))) => by
          have := top_any (canT t) B (canT t).length cb W h (canT_ne t) (by unfold maxLen; omega)
          rw [topF_can ht, h4t] at this
          exact this)
        have CSt := Lib.hid (fun (W : World) (h : Reads W W.heap.size 6 B (canT t).length (nds (canT t))) => by
          have := rSub_own (canT t) (xt : Int) B (canT t).length cb W h (by unfold maxLen; omega)
          rw [hst] at this
          exact this)
        have CEt := Lib.hid (fun (W : World) (A' : Option Addr) (c' : Nat) (h1 : Reads W W.heap.size 6 A' (canT (negT t)).length (nds (canT (negT t)))) (h2 : Reads W W.heap.size 6 A (canT s).length (nds (canT s))) => by
          have := rSame_any (canT (negT t)) (canT s) A' A (canT (negT t)).length (canT s).length c' ca W h1 h2 (by have := neg_len ht; unfold maxLen; omega) (by unfold maxLen; omega)
          rw [same_can8 (all_neg ht) hs (by have := neg_len ht; omega) (by omega)] at this
          exact this)
        obtain ⟨mt, hmt⟩ : ∃ m, (canT t).length = m + 1 := ⟨(canT t).length - 1, by have := List.length_pos_iff.2 (canT_ne t); omega⟩
        have hmnt : mt < (canT t).length := by omega
        rw [show (canT t).length - 1 = mt by omega] at hxt
        have HXt := Lib.hid hxt
        have hv1t : wrap64 (((canT t).length : Int) - 1) = (mt : Int) := by unfold wrap64; omega
        have hv2t : IntKind.i64.wrap (((canT t).length : Int) - 1) = (mt : Int) := by rw [IntKind.wrap_i64]; omega
        have hv3t : ((canT t).length : Int) - 1 = (mt : Int) := by omega
        have hv4t : wrap64 (mt : Int) = (mt : Int) := by unfold wrap64; omega
        clear hxt hst hmt
        rw [decide_eq_false he] at CEs
        have HD : Hid (decide (oppT s t) = decide (negT t = s)) := Lib.hid (by
          by_cases e : negT t = s
          · rw [decide_eq_true e, decide_eq_true ((opp_iff hs ht).2 (.inr ⟨h4t, e⟩))]
          · rw [decide_eq_false e, decide_eq_false (fun k => ((opp_iff hs ht).1 k).elim (fun k => he k.2) (fun k => e k.2))])
        generalize decide (negT t = s) = de at *
        rw [HD.out]
        clear HD h4s hs ht he h4t
        generalize canT (negT s) = ns at *
        generalize canT (negT t) = nt at *
        obtain ⟨aA, eAs, _⟩ := HA.out.nd_at hmns
        subst eAs
        obtain ⟨aB, eAt, _⟩ := HB.out.nd_at hmnt
        subst eAt
        generalize topT s = ts at *
        generalize topT t = tt at *
        generalize canT s = la at *
        generalize canT t = lb at *
        go_enter Tryd.func128, Tryd.ntmps128
        obtain ⟨aq1, eq1, _, _, _, _, _, k4, _⟩ := HA.out.nd_at hmns
        rw [HXs.out] at k4
        have k4b := add_cell k4
        obtain rfl := Option.some.inj eq1
        go_wp2_with fail
        refine (HTs.out _ HA.out).mono ?_
        rintro r wq ⟨rfl, rfl⟩
        go_wp2_with fail
        refine (CSs.out _ HA.out).mono ?_
        rintro r w1a ⟨A1, c1, rfl, ho, hb⟩
        have HO1 := Lib.hid ho
        have HBa1 := Lib.hid (HBZ.out.trans (hb.mono HBZ.out.size))
        have HRo1 := Lib.hid ((HB.out.below hb).more hb.size)
        have HRs1 := Lib.hid ((HA.out.below hb).more hb.size)
        clear ho hb k4 k4b
        go_wp2_with fail
        refine (CEs.out w1a A1 c1 (Reads.of_own HO1.out) HRo1.out).mono ?_
        rintro r w1b ⟨rfl, hb⟩
        have HB1x := Lib.hid (HBa1.out.trans (hb.mono HBa1.out.size))
        have HRo1x := Lib.hid ((HRo1.out.below hb).more hb.size)
        have HRs1x := Lib.hid ((HRs1.out.below hb).more hb.size)
        clear hb
        obtain ⟨aq2, eq2, _, _, _, _, _, k4, _⟩ := HRo1x.out.nd_at hmnt
        rw [HXt.out] at k4
        have k4b := add_cell k4
        obtain rfl := Option.some.inj eq2
        go_wp2_with fail
        refine (HTt.out _ HRo1x.out).mono ?_
        rintro r wq ⟨rfl, rfl⟩
        go_wp2_with fail
        refine (CSt.out _ HRo1x.out).mono ?_
        rintro r w2a ⟨A2, c2, rfl, ho, hb⟩
        have HO2 := Lib.hid ho
        have HBa2 := Lib.hid (HB1x.out.trans (hb.mono HB1x.out.size))
        have HRo2 := Lib.hid ((HRs1x.out.below hb).more hb.size)
        have HRs2 := Lib.hid ((HRo1x.out.below hb).more hb.size)
        clear ho hb k4 k4b
        go_wp2_with fail
        refine (CEt.out w2a A2 c2 (Reads.of_own HO2.out) HRo2.out).mono ?_
        rintro r w2b ⟨rfl, hb⟩
        have HB2x := Lib.hid (HBa2.out.trans (hb.mono HBa2.out.size))
        have HRo2x := Lib.hid ((HRo2.out.below hb).more hb.size)
        have HRs2x := Lib.hid ((HRs2.out.below hb).more hb.size)
        clear hb
        go_wp2
        go_ret
        exact ⟨rfl, HB2x.out⟩
      · obtain ⟨xs, hxs, hss⟩ := opp_last hs (by omega) h4s
        have HTs := Lib.hid (fun (W : World) (h : Reads W W.heap.size 6 A (canT s).length (nds (canT s))) => by
          have := top_any (canT s) A (canT s).length ca W h (canT_ne s) (by unfold maxLen; omega)
          rw [topF_can hs, h4s] at this
          exact this)
        have CSs := Lib.hid (fun (W : World) (h : Reads W W.heap.size 6 A (canT s).length (nds (canT s))) => by
          have := rSub_own (canT s) (xs : Int) A (canT s).length ca W h (by unfold maxLen; omega)
          rw [hss] at this
          exact this)
        have CEs := Lib.hid (fun (W : World) (A' : Option Addr) (c' : Nat) (h1 : Reads W W.heap.size 6 A' (canT (negT s)).length (nds (canT (negT s)))) (h2 : Reads W W.heap.size 6 B (canT t).length (nds (canT t))) => by
          have := rSame_any (canT (negT s)) (canT t) A' B (canT (negT s)).length (canT t).length c' cb W h1 h2 (by have := neg_len hs; unfold maxLen; omega) (by unfold maxLen; omega)
          rw [same_can8 (all_neg hs) ht (by have := neg_len hs; omega) (by omega)] at this
          exact this)
        obtain ⟨ms, hms⟩ : ∃ m, (canT s).length = m + 1 := ⟨(canT s).length - 1, by have := List.length_pos_iff.2 (canT_ne s); omega⟩
        have hmns : ms < (canT s).length := by omega
        rw [show (canT s).length - 1 = ms by omega] at hxs
        have HXs := Lib.hid hxs
        have hv1s : wrap64 (((canT s).length : Int) - 1) = (ms : Int) := by unfold wrap64; omega
        have hv2s : IntKind.i64.wrap (((canT s).length : Int) - 1) = (ms : Int) := by rw [IntKind.wrap_i64]; omega
        have hv3s : ((canT s).length : Int) - 1 = (ms : Int) := by omega
        have hv4s : wrap64 (ms : Int) = (ms : Int) := by unfold wrap64; omega
        clear hxs hss hms
        have HTt := Lib.hid (fun (W : World) (h : Reads W W.heap.size 6 B (canT t).length (nds (canT t))) => by
          have := top_any (canT t) B (canT t).length cb W h (canT_ne t) (by unfold maxLen; omega)
          rw [topF_can ht] at this
          exact this)
        have e4t : (topT t == 4) = false := by simpa using h4t
        rw [decide_eq_false he] at CEs
        have HD : Hid (decide (oppT s t) = false) := Lib.hid (decide_eq_false (fun k => ((opp_iff hs ht).1 k).elim (fun k => he k.2) (fun k => h4t k.1)))
        rw [HD.out]
        clear HD h4s hs ht he h4t
        generalize canT (negT s) = ns at *
        obtain ⟨aA, eAs, _⟩ := HA.out.nd_at hmns
        subst eAs
        generalize topT s = ts at *
        generalize topT t = tt at *
        generalize canT s = la at *
        generalize canT t = lb at *
        go_enter Tryd.func128, Tryd.ntmps128
        obtain ⟨aq1, eq1, _, _, _, _, _, k4, _⟩ := HA.out.nd_at hmns
        rw [HXs.out] at k4
        have k4b := add_cell k4
        obtain rfl := Option.some.inj eq1
        go_wp2_with fail
        refine (HTs.out _ HA.out).mono ?_
        rintro r wq ⟨rfl, rfl⟩
        go_wp2_with fail
        refine (CSs.out _ HA.out).mono ?_
        rintro r w1a ⟨A1, c1, rfl, ho, hb⟩
        have HO1 := Lib.hid ho
        have HBa1 := Lib.hid (HBZ.out.trans (hb.mono HBZ.out.size))
        have HRo1 := Lib.hid ((HB.out.below hb).more hb.size)
        have HRs1 := Lib.hid ((HA.out.below hb).more hb.size)
        clear ho hb k4 k4b
        go_wp2_with fail
        refine (CEs.out w1a A1 c1 (Reads.of_own HO1.out) HRo1.out).mono ?_
        rintro r w1b ⟨rfl, hb⟩
        have HB1x := Lib.hid (HBa1.out.trans (hb.mono HBa1.out.size))
        have HRo1x := Lib.hid ((HRo1.out.below hb).more hb.size)
        have HRs1x := Lib.hid ((HRs1.out.below hb).more hb.size)
        clear hb
        go_wp2_with fail
        refine (HTt.out _ HRo1x.out).mono ?_
        rintro r wq ⟨rfl, rfl⟩
        go_wp2
        go_ret
        exact ⟨rfl, HB1x.out⟩
  · by_cases h4t : topT t = 4
    · have HTs := Lib.hid (fun (W : World) (h : Reads W W.heap.size 6 A (canT s).length (nds (canT s))) => by
        have := top_any (canT s) A (canT s).length ca W h (canT_ne s) (by unfold maxLen; omega)
        rw [topF_can hs] at this
        exact this)
      have e4s : (topT s == 4) = false := by simpa using h4s
      obtain ⟨xt, hxt, hst⟩ := opp_last ht (by omega) h4t
      have HTt := Lib.hid (fun (W : World) (h : Reads W W.heap.size 6 B (canT t).length (nds (canT t))) => by
        have := top_any (canT t) B (canT t).length cb W h (canT_ne t) (by unfold maxLen; omega)
        rw [topF_can ht, h4t] at this
        exact this)
      have CSt := Lib.hid (fun (W : World) (h : Reads W W.heap.size 6 B (canT t).length (nds (canT t))) => by
        have := rSub_own (canT t) (xt : Int) B (canT t).length cb W h (by unfold maxLen; omega)
        rw [hst] at this
        exact this)
      have CEt := Lib.hid (fun (W : World) (A' : Option Addr) (c' : Nat) (h1 : Reads W W.heap.size 6 A' (canT (negT t)).length (nds (canT (negT t)))) (h2 : Reads W W.heap.size 6 A (canT s).length (nds (canT s))) => by
        have := rSame_any (canT (negT t)) (canT s) A' A (canT (negT t)).length (canT s).length c' ca W h1 h2 (by have := neg_len ht; unfold maxLen; omega) (by unfold maxLen; omega)
        rw [same_can8 (all_neg ht) hs (by have := neg_len ht; omega) (by omega)] at this
        exact this)
      obtain ⟨mt, hmt⟩ : ∃ m, (canT t).length = m + 1 := ⟨(canT t).length - 1, by have := List.length_pos_iff.2 (canT_ne t); omega⟩
      have hmnt : mt < (canT t).length := by omega
      rw [show (canT t).length - 1 = mt by omega] at hxt
      have HXt := Lib.hid hxt
      have hv1t : wrap64 (((canT t).length : Int) - 1) = (mt : Int) := by unfold wrap64; omega
      have hv2t : IntKind.i64.wrap (((canT t).length : Int) - 1) = (mt : Int) := by rw [IntKind.wrap_i64]; omega
      have hv3t : ((canT t).length : Int) - 1 = (mt : Int) := by omega
      have hv4t : wrap64 (mt : Int) = (mt : Int) := by unfold wrap64; omega
      clear hxt hst hmt
      have HD : Hid (decide (oppT s t) = decide (negT t = s)) := Lib.hid (by
        by_cases e : negT t = s
        · rw [decide_eq_true e, decide_eq_true ((opp_iff hs ht).2 (.inr ⟨h4t, e⟩))]
        · rw [decide_eq_false e, decide_eq_false (fun k => ((opp_iff hs ht).1 k).elim (fun k => h4s k.1) (fun k => e k.2))])
      generalize decide (negT t = s) = de at *
      rw [HD.out]
      clear HD h4s hs ht h4t
      generalize canT (negT t) = nt at *
      obtain ⟨aB, eAt, _⟩ := HB.out.nd_at hmnt
      subst eAt
      generalize topT s = ts at *
      generalize topT t = tt at *
      generalize canT s = la at *
      generalize canT t = lb at *
      go_enter Tryd.func128, Tryd.ntmps128
      go_wp2_with fail
      refine (HTs.out _ HA.out).mono ?_
      rintro r wq ⟨rfl, rfl⟩
      obtain ⟨aq2, eq2, _, _, _, _, _, k4, _⟩ := HB.out.nd_at hmnt
      rw [HXt.out] at k4
      have k4b := add_cell k4
      obtain rfl := Option.some.inj eq2
      go_wp2_with fail
      refine (HTt.out _ HB.out).mono ?_
      rintro r wq ⟨rfl, rfl⟩
      go_wp2_with fail
      refine (CSt.out _ HB.out).mono ?_
      rintro r w2a ⟨A2, c2, rfl, ho, hb⟩
      have HO2 := Lib.hid ho
      have HBa2 := Lib.hid (HBZ.out.trans (hb.mono HBZ.out.size))
      have HRo2 := Lib.hid ((HA.out.below hb).more hb.size)
      have HRs2 := Lib.hid ((HB.out.below hb).more hb.size)
      clear ho hb k4 k4b
      go_wp2_with fail
      refine (CEt.out w2a A2 c2 (Reads.of_own HO2.out) HRo2.out).mono ?_
      rintro r w2b ⟨rfl, hb⟩
      have HB2x := Lib.hid (HBa2.out.trans (hb.mono HBa2.out.size))
      have HRo2x := Lib.hid ((HRo2.out.below hb).more hb.size)
      have HRs2x := Lib.hid ((HRs2.out.below hb).more hb.size)
      clear hb
      go_wp2
      go_ret
      exact ⟨rfl, HB2x.out⟩
    · have HTs := Lib.hid (fun (W : World) (h : Reads W W.heap.size 6 A (canT s).length (nds (canT s))) => by
        have := top_any (canT s) A (canT s).length ca W h (canT_ne s) (by unfold maxLen; omega)
        rw [topF_can hs] at this
        exact this)
      have e4s : (topT s == 4) = false := by simpa using h4s
      have HTt := Lib.hid (fun (W : World) (h : Reads W W.heap.size 6 B (canT t).length (nds (canT t))) => by
        have := top_any (canT t) B (canT t).length cb W h (canT_ne t) (by unfold maxLen; omega)
        rw [topF_can ht] at this
        exact this)
      have e4t : (topT t == 4) = false := by simpa using h4t
      have HD : Hid (decide (oppT s t) = false) := Lib.hid (decide_eq_false (fun k => ((opp_iff hs ht).1 k).elim (fun k => h4s k.1) (fun k => h4t k.1)))
      rw [HD.out]
      clear HD h4s hs ht h4t
      generalize topT s = ts at *
      generalize topT t = tt at *
      generalize canT s = la at *
      generalize canT t = lb at *
      go_enter Tryd.func128, Tryd.ntmps128
      go_wp2_with fail
      refine (HTs.out _ HA.out).mono ?_
      rintro r wq ⟨rfl, rfl⟩
      go_wp2_with fail
      refine (HTt.out _ HB.out).mono ?_
      rintro r wq ⟨rfl, rfl⟩
      go_wp2
      go_ret
      exact ⟨rfl, HBZ.out⟩
end Go.Proofs.YtkkkomkljpolbaaDoor
