/- Layer 13: the parts of a disjoint union. -/
import Derived.Test.YtofclgapgjcflaaDoorEa
namespace Go.Proofs.Ws
theorem low_bit (n i : Nat) : (2 ^ n - 1).testBit i = decide (i < n) := by
  rw [Nat.testBit_two_pow_sub_one]
theorem high_bit (na nb i : Nat) : (2 ^ (na + nb) - 2 ^ na).testBit i = (decide (na ≤ i) && decide (i < na + nb)) := by
  have e : 2 ^ (na + nb) - 2 ^ na = (2 ^ nb - 1) * 2 ^ na := by rw [Nat.sub_mul, Nat.one_mul, ← Nat.pow_add, Nat.add_comm na nb]
  rw [e, Nat.testBit_mul_two_pow, Nat.testBit_two_pow_sub_one]
  by_cases h : na ≤ i
  · rw [decide_eq_true h]
    simp only [Bool.true_and]
    by_cases h2 : i < na + nb
    · rw [decide_eq_true h2, decide_eq_true (show i - na < nb by omega)]
    · rw [decide_eq_false h2, decide_eq_false (show ¬ i - na < nb by omega)]
  · rw [decide_eq_false h]; rfl
theorem filter_none {α : Type} {p : α → Bool} {l : List α} (h : ∀ x ∈ l, p x = false) : l.filter p = [] := by
  rw [List.filter_eq_nil_iff]
  intro x hx
  rw [h x hx]
  exact Bool.false_ne_true
theorem filter_all {α : Type} {p : α → Bool} {l : List α} (h : ∀ x ∈ l, p x = true) : l.filter p = l := List.filter_eq_self.2 h
theorem mem_low {na : Nat} (h : na ≤ 64) : mem (2 ^ na - 1) = List.range na := by
  have e : List.range 64 = List.range na ++ (List.range (64 - na)).map (na + ·) := by rw [← List.range_add, show na + (64 - na) = 64 by omega]
  unfold mem
  rw [e, List.filter_append, filter_all, filter_none, List.append_nil]
  · intro x hx
    obtain ⟨y, _, rfl⟩ := List.mem_map.1 hx
    rw [low_bit, decide_eq_false (by omega)]
  · intro x hx
    rw [low_bit, decide_eq_true (List.mem_range.1 hx)]
theorem mem_high {na nb : Nat} (h : na + nb ≤ 64) : mem (2 ^ (na + nb) - 2 ^ na) = (List.range nb).map (na + ·) := by
  have e : List.range 64 = List.range na ++ ((List.range nb).map (na + ·) ++ (List.range (64 - na - nb)).map (fun x => na + nb + x)) := by
    have e1 : List.range 64 = List.range (na + nb) ++ (List.range (64 - na - nb)).map (na + nb + ·) := by rw [← List.range_add, show na + nb + (64 - na - nb) = 64 by omega]
    rw [e1, List.range_add, List.append_assoc]
  unfold mem
  rw [e, List.filter_append, List.filter_append, filter_none, filter_all, filter_none, List.append_nil, List.nil_append]
  · intro x hx
    obtain ⟨y, _, rfl⟩ := List.mem_map.1 hx
    rw [high_bit, decide_eq_false (show ¬ na + nb + y < na + nb by omega), Bool.and_false]
  · intro x hx
    obtain ⟨y, hy, rfl⟩ := List.mem_map.1 hx
    have := List.mem_range.1 hy
    rw [high_bit, decide_eq_true (show na ≤ na + y by omega), decide_eq_true (show na + y < na + nb by omega)]; rfl
  · intro x hx
    have := List.mem_range.1 hx
    rw [high_bit, decide_eq_false (show ¬ na ≤ x by omega), Bool.false_and]
theorem ix_low {na s x : Nat} (hx : x < 2 ^ na) (h : ∀ i, i < na → s.testBit i = x.testBit i) : ix (List.range na) s = x := by
  unfold ix ixN
  rw [List.length_range]
  rw [bitsN_congr (q := fun i => x.testBit i) (fun i hi => by simp [hi, h i hi]), bitsN_self hx]
theorem ix_high {na nb s x : Nat} (hx : x < 2 ^ nb) (h : ∀ i, i < nb → s.testBit (na + i) = x.testBit i) : ix ((List.range nb).map (na + ·)) s = x := by
  unfold ix ixN
  rw [List.length_map, List.length_range]
  rw [bitsN_congr (q := fun i => x.testBit i) (fun i hi => by simp [hi, h i hi]), bitsN_self hx]
theorem or_low {na x y i : Nat} (h : i < na) : (x ||| y * 2 ^ na).testBit i = x.testBit i := by
  rw [Nat.testBit_or, Nat.testBit_mul_two_pow, decide_eq_false (by omega)]; simp
theorem or_high {na x y i : Nat} (hx : x < 2 ^ na) : (x ||| y * 2 ^ na).testBit (na + i) = y.testBit i := by
  rw [Nat.testBit_or, Nat.testBit_mul_two_pow, Nat.testBit_lt_two_pow (Nat.lt_of_lt_of_le hx (Nat.pow_le_pow_right (by decide) (by omega))), decide_eq_true (by omega)]
  simp
theorem val_lt {l : List Nat} {n : Nat} (h : ∀ x ∈ l, x < 2 ^ n) (i : Nat) : l.getD i 0 < 2 ^ n := by
  by_cases hi : i < l.length
  · exact h _ (by rw [List.getD_eq_getElem?_getD, List.getElem?_eq_getElem hi]; exact List.getElem_mem hi)
  · rw [List.getD_eq_getElem?_getD, List.getElem?_eq_none (by omega)]
    exact Nat.two_pow_pos n
theorem list_getD {l : List Nat} {n : Nat} (h : l.length = n) : (List.range n).map (fun i => l.getD i 0) = l := by
  subst h
  apply List.ext_getElem (by simp)
  intro i h1 h2
  simp [h2]
theorem lists_getD {l : List (List Nat)} {n : Nat} (h : l.length = n) : (List.range n).map (fun i => l.getD i []) = l := by
  subst h
  apply List.ext_getElem (by simp)
  intro i h1 h2
  simp [h2]
/-- two models that are joined -/
structure Two (na nb : Nat) (a b : Mo) : Prop where
  oa : OkM na a
  ob : OkM nb b
  erel : a.rel.length = b.rel.length
  eval : a.val.length = b.val.length
  hle : na + nb ≤ 64
def uniM (a b : Mo) : Mo := ⟨a.n + b.n, (List.range a.val.length).map (unionV a b), (List.range a.rel.length).map (unionR a b)⟩
theorem Two.of {a b : Mo} (h : unionE a b = 0) : Two a.n.toNat b.n.toNat a b ∧ unionM a b = uniM a b := by
  by_cases h1 : chkM a = 0
  · by_cases h2 : chkM b = 0
    · by_cases h3 : a.rel.length ≠ b.rel.length ∨ a.val.length ≠ b.val.length
      · rw [show unionE a b = 1 by unfold unionE; rw [if_neg (by omega), if_neg (by omega), if_pos h3]] at h; cases h
      · by_cases h4 : 64 < a.n + b.n
        · rw [show unionE a b = 8 by unfold unionE; rw [if_neg (by omega), if_neg (by omega), if_neg h3, if_pos h4]] at h; cases h
        · have oa := chkM_ok h1
          have ob := chkM_ok h2
          have ea := oa.num
          have eb := ob.num
          refine ⟨⟨oa, ob, Decidable.not_not.1 (fun e => h3 (.inl e)), Decidable.not_not.1 (fun e => h3 (.inr e)), by omega⟩, ?_⟩
          unfold unionM
          rw [if_pos h]; rfl
    · exact absurd (show unionE a b = chkM b by unfold unionE; rw [if_neg (by omega), if_pos h2]) (by rw [h]; omega)
  · exact absurd (show unionE a b = chkM a by unfold unionE; rw [if_pos h1]) (by rw [h]; omega)
theorem unionR_low {a b : Mo} {na nb : Nat} (h : Two na nb a b) {i w : Nat} (hi : i < a.rel.length) (hw : w < na) : (unionR a b i).getD w 0 = (a.rel.getD i []).getD w 0 := by
  have hl : (a.rel.getD i []).length = na := h.oa.len _ (by rw [List.getD_eq_getElem?_getD, List.getElem?_eq_getElem hi]; exact List.getElem_mem hi)
  unfold unionR
  rw [List.getD_eq_getElem?_getD, List.getElem?_append_left (by omega), ← List.getD_eq_getElem?_getD]
theorem unionR_high {a b : Mo} {na nb : Nat} (h : Two na nb a b) {i w : Nat} (hi : i < a.rel.length) (hw : w < nb) : (unionR a b i).getD (na + w) 0 = (b.rel.getD i []).getD w 0 * 2 ^ na := by
  have hl : (a.rel.getD i []).length = na := h.oa.len _ (by rw [List.getD_eq_getElem?_getD, List.getElem?_eq_getElem hi]; exact List.getElem_mem hi)
  have hb : i < b.rel.length := by have := h.erel; omega
  have hm : (b.rel.getD i []).length = nb := h.ob.len _ (by rw [List.getD_eq_getElem?_getD, List.getElem?_eq_getElem hb]; exact List.getElem_mem hb)
  have en : a.n.toNat = na := by rw [h.oa.num]; rfl
  unfold unionR shR
  generalize b.rel.getD i [] = rb at *
  generalize a.rel.getD i [] = ra at *
  rw [List.getD_eq_getElem?_getD, List.getElem?_append_right (by omega), hl, show na + w - na = w by omega, List.getElem?_map, en, List.getD_eq_getElem?_getD, List.getElem?_eq_getElem (show w < rb.length by omega)]
  rfl
theorem Two.ok {na nb : Nat} {a b : Mo} (h : Two na nb a b) : OkM (na + nb) (uniM a b) := by
  have ea := h.oa.num
  have eb := h.ob.num
  have en : a.n.toNat = na := by rw [ea]; rfl
  have hp1 : 2 ^ na ≤ 2 ^ (na + nb) := Nat.pow_le_pow_right (by decide) (by omega)
  have hmul : ∀ y, y < 2 ^ nb → y * 2 ^ na < 2 ^ (na + nb) := fun y hy => by
    rw [Nat.add_comm, Nat.pow_add]
    exact Nat.mul_lt_mul_of_pos_right hy (Nat.two_pow_pos na)
  refine ⟨by show a.n + b.n = _; rw [ea, eb]; rfl, by have := h.oa.pos; omega, h.hle, by show (List.map _ _).length ≤ 4; simp; exact h.oa.agents, by show (List.map _ _).length ≤ 8; simp; exact h.oa.facts, ?_, ?_, ?_⟩
  · intro r hr
    obtain ⟨i, hi, rfl⟩ := List.mem_map.1 hr
    have hi := List.mem_range.1 hi
    have hb : i < b.rel.length := by have := h.erel; omega
    have hl : (a.rel.getD i []).length = na := h.oa.len _ (by rw [List.getD_eq_getElem?_getD, List.getElem?_eq_getElem hi]; exact List.getElem_mem hi)
    have hm : (b.rel.getD i []).length = nb := h.ob.len _ (by rw [List.getD_eq_getElem?_getD, List.getElem?_eq_getElem hb]; exact List.getElem_mem hb)
    unfold unionR shR
    rw [List.length_append, List.length_map, hl, hm]
  · intro x hx
    obtain ⟨i, _, rfl⟩ := List.mem_map.1 hx
    unfold unionV
    rw [en]
    exact Nat.or_lt_two_pow (Nat.lt_of_lt_of_le (val_lt h.oa.val i) hp1) (hmul _ (val_lt h.ob.val i))
  · intro r hr x hx
    obtain ⟨i, hi, rfl⟩ := List.mem_map.1 hr
    have hi := List.mem_range.1 hi
    have hb : i < b.rel.length := by have := h.erel; omega
    unfold unionR shR at hx
    rw [en] at hx
    rcases List.mem_append.1 hx with hx | hx
    · exact Nat.lt_of_lt_of_le (h.oa.rel _ (by rw [List.getD_eq_getElem?_getD, List.getElem?_eq_getElem hi]; exact List.getElem_mem hi) x hx) hp1
    · obtain ⟨y, hy, rfl⟩ := List.mem_map.1 hx
      exact hmul y (h.ob.rel _ (by rw [List.getD_eq_getElem?_getD, List.getElem?_eq_getElem hb]; exact List.getElem_mem hb) y hy)
theorem Two.left {na nb : Nat} {a b : Mo} (h : Two na nb a b) : pickM (uniM a b) (List.range na) = a := by
  have en : a.n.toNat = na := by rw [h.oa.num]; rfl
  have ev : (uniM a b).val.map (ix (List.range na)) = a.val := by
    refine Eq.trans ?_ (list_getD (l := a.val) rfl)
    show ((List.range a.val.length).map (unionV a b)).map _ = _
    rw [List.map_map]
    apply List.map_congr_left
    intro i _
    show ix (List.range na) (unionV a b i) = _
    unfold unionV
    rw [en]
    exact ix_low (val_lt h.oa.val i) (fun j hj => or_low hj)
  have er : (uniM a b).rel.map (fun r : List Nat => (List.range na).map (fun w => ix (List.range na) (r.getD w 0))) = a.rel := by
    refine Eq.trans ?_ (lists_getD (l := a.rel) rfl)
    show ((List.range a.rel.length).map (unionR a b)).map _ = _
    rw [List.map_map]
    apply List.map_congr_left
    intro i hi
    have hi := List.mem_range.1 hi
    have hl : (a.rel.getD i []).length = na := h.oa.len _ (by rw [List.getD_eq_getElem?_getD, List.getElem?_eq_getElem hi]; exact List.getElem_mem hi)
    refine Eq.trans ?_ (list_getD hl)
    apply List.map_congr_left
    intro w hw
    rw [unionR_low h hi (List.mem_range.1 hw)]
    exact ix_low (relW_lt h.oa.rel i w) (fun j _ => rfl)
  unfold pickM
  rw [ev, er, List.length_range]
  obtain ⟨n, val, rel⟩ := a
  have := h.oa.num
  simp only at this
  rw [this]
theorem Two.right {na nb : Nat} {a b : Mo} (h : Two na nb a b) : pickM (uniM a b) ((List.range nb).map (na + ·)) = b := by
  have en : a.n.toNat = na := by rw [h.oa.num]; rfl
  have ev : (uniM a b).val.map (ix ((List.range nb).map (na + ·))) = b.val := by
    refine Eq.trans ?_ (list_getD (l := b.val) h.eval.symm)
    show ((List.range a.val.length).map (unionV a b)).map _ = _
    rw [List.map_map]
    apply List.map_congr_left
    intro i _
    show ix _ (unionV a b i) = _
    unfold unionV
    rw [en]
    exact ix_high (val_lt h.ob.val i) (fun j _ => or_high (val_lt h.oa.val i))
  have er : (uniM a b).rel.map (fun r : List Nat => ((List.range nb).map (na + ·)).map (fun w => ix ((List.range nb).map (na + ·)) (r.getD w 0))) = b.rel := by
    refine Eq.trans ?_ (lists_getD (l := b.rel) h.erel.symm)
    show ((List.range a.rel.length).map (unionR a b)).map _ = _
    rw [List.map_map]
    apply List.map_congr_left
    intro i hi
    have hi := List.mem_range.1 hi
    have hb : i < b.rel.length := by have := h.erel; omega
    have hm : (b.rel.getD i []).length = nb := h.ob.len _ (by rw [List.getD_eq_getElem?_getD, List.getElem?_eq_getElem hb]; exact List.getElem_mem hb)
    refine Eq.trans ?_ (list_getD hm)
    show ((List.range nb).map (na + ·)).map _ = _
    rw [List.map_map]
    apply List.map_congr_left
    intro w hw
    show ix _ ((unionR a b i).getD (na + w) 0) = _
    rw [unionR_high h hi (List.mem_range.1 hw)]
    refine ix_high (relW_lt h.ob.rel i w) (fun j _ => ?_)
    rw [Nat.testBit_mul_two_pow, decide_eq_true (show na ≤ na + j by omega), show na + j - na = j by omega]; rfl
  unfold pickM
  rw [ev, er, List.length_map, List.length_range]
  obtain ⟨n, val, rel⟩ := b
  have := h.ob.num
  simp only at this
  rw [this]
theorem gen_self {rel : List (List Nat)} {n s : Nat} (hr : ∀ r ∈ rel, ∀ x ∈ r, x < 2 ^ n) (hs : s < 2 ^ n) (hc : ClosedM rel s) : genF rel n s = s :=
  GenM.unique (genF_gen hr hs) ⟨SubS.refl s, hc, fun _ h _ => h⟩
theorem Two.closedL {na nb : Nat} {a b : Mo} (h : Two na nb a b) : ClosedM (uniM a b).rel (2 ^ na - 1) := by
  intro r hr w hw
  obtain ⟨i, hi, rfl⟩ := List.mem_map.1 hr
  rw [low_bit] at hw
  rw [unionR_low h (List.mem_range.1 hi) (of_decide_eq_true hw)]
  intro j hj
  rw [low_bit]
  exact decide_eq_true (bit_lt (relW_lt h.oa.rel i w) hj)
theorem Two.closedR {na nb : Nat} {a b : Mo} (h : Two na nb a b) : ClosedM (uniM a b).rel (2 ^ (na + nb) - 2 ^ na) := by
  intro r hr w hw
  obtain ⟨i, hi, rfl⟩ := List.mem_map.1 hr
  rw [high_bit, Bool.and_eq_true] at hw
  have h1 := of_decide_eq_true hw.1
  have h2 := of_decide_eq_true hw.2
  obtain ⟨v, rfl⟩ : ∃ v, w = na + v := ⟨w - na, by omega⟩
  rw [unionR_high h (List.mem_range.1 hi) (by omega)]
  intro j hj
  rw [Nat.testBit_mul_two_pow, Bool.and_eq_true] at hj
  have h3 := of_decide_eq_true hj.1
  have h4 := bit_lt (relW_lt h.ob.rel i v) hj.2
  rw [high_bit, decide_eq_true h3, decide_eq_true (show j < na + nb by omega)]; rfl
end Go.Proofs.Ws
