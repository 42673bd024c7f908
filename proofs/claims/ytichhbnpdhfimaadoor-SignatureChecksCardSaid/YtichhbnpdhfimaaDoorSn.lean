/- Layer 4 as plain mathematics: a group's text says the group; the order of names does not matter. -/
import Derived.Test.YtichhbnpdhfimaaDoorSm
import Derived.Lib.Join
namespace Go.Proofs.Ws
open Go
theorem name_comma {x : ByteArray} (h : nameV x = true) : ∀ c ∈ x.data.toList, c ≠ 44 := by
  intro c hc e
  unfold nameV nameL at h
  simp only [Bool.and_eq_true] at h
  have := List.all_eq_true.1 h.2 c hc
  rw [e] at this
  exact absurd this (by decide)
theorem sp_join : ∀ (l : List (List UInt8)), l ≠ [] → (∀ p ∈ l, ∀ c ∈ p, c ≠ 44) → sp (Lib.join l [44]) = l
  | [], h, _ => absurd rfl h
  | [x], _, h => by rw [Lib.join_one, sp_none x (h x (by simp))]
  | x :: y :: r, _, h => by
    have e : Lib.join (x :: y :: r) [44] = x ++ 44 :: Lib.join (y :: r) [44] := by
      rw [Lib.join_cons, Lib.join_cons]
      simp [Lib.joinTail]
    rw [e, sp_cut x _ (h x (by simp)), sp_join (y :: r) (by simp) (fun p hp => h p (List.mem_cons_of_mem _ hp))]
theorem parts_join (l : List ByteArray) (hne : l ≠ []) (h : ∀ x ∈ l, nameV x = true) : partsB (joinV l) = l := by
  unfold partsB joinV
  have e := sp_join (l.map (·.data.toList)) (by simpa using hne) (by
    intro p hp
    obtain ⟨x, hx, rfl⟩ := List.mem_map.1 hp
    exact name_comma (h x hx))
  simp only [e, List.map_map]
  conv => rhs; rw [← List.map_id l]
  exact List.map_congr_left (fun x _ => by simp)
theorem or_bit_mod (g k : Nat) : (g % 2 ^ k) ||| (if g.testBit k then 2 ^ k else 0) = g % 2 ^ (k + 1) := by
  apply Nat.eq_of_testBit_eq
  intro i
  rw [Nat.testBit_or, Nat.testBit_mod_two_pow, Nat.testBit_mod_two_pow]
  by_cases hb : g.testBit k
  · rw [if_pos hb, Nat.testBit_two_pow]
    by_cases h1 : i < k
    · simp [h1, show i < k + 1 by omega, show ¬ k = i by omega]
    · by_cases h2 : k = i
      · subst h2; simp [hb]
      · simp [h1, h2, show ¬ i < k + 1 by omega]
  · rw [if_neg hb, Nat.zero_testBit, Bool.or_false]
    by_cases h1 : i < k
    · simp [h1, show i < k + 1 by omega]
    · by_cases h2 : k = i
      · subst h2; simp [hb]
      · simp [h1, show ¬ i < k + 1 by omega]
theorem grp_sel {A : List ByteArray} (hn : A.Nodup) (g : Nat) : ∀ k, k ≤ A.length → ∀ rest, grp A (selK A g k ++ rest) 0 = grp A rest (g % 2 ^ k)
  | 0, _, rest => by simp [selK, Nat.mod_one]
  | k + 1, hk, rest => by
    rw [selK_succ]
    have ho := or_bit_mod g k
    split
    · rename_i hb
      rw [List.append_assoc, grp_sel hn g k (by omega)]
      rw [if_pos hb] at ho
      have hf : (g % 2 ^ k).testBit k = false := by rw [Nat.testBit_mod_two_pow]; simp
      rw [List.singleton_append, grp, idx_at hn (by omega), if_pos (by omega), Int.toNat_natCast, hf, ho]
      rfl
    · rename_i hb
      rw [if_neg hb, Nat.or_zero] at ho
      rw [grp_sel hn g k (by omega), ho]
/-- a group's text says the group -/
theorem back_group {A : List ByteArray} (hn : A.Nodup) (g : Nat) (hg : g < 2 ^ A.length) : grp A (selK A g A.length) 0 = (g, 0) := by
  have := grp_sel hn g A.length (Nat.le_refl _) []
  rw [List.append_nil, Nat.mod_eq_of_lt hg] at this
  rw [this]; rfl
theorem selK_ne (A : List ByteArray) {g : Nat} (h0 : 1 ≤ g) (hg : g < 2 ^ A.length) : selK A g A.length ≠ [] := by
  intro h
  have hl : (selK A g A.length).length = 0 := by rw [h]; rfl
  rw [selK_length] at hl
  unfold popK at hl
  have hnil := List.eq_nil_of_length_eq_zero hl
  have : g = 0 := by
    apply Nat.eq_of_testBit_eq
    intro i
    rw [Nat.zero_testBit]
    by_cases hi : i < A.length
    · cases hb : g.testBit i
      · rfl
      · have : i ∈ (List.range A.length).filter (fun i => g.testBit i) := List.mem_filter.2 ⟨List.mem_range.2 hi, hb⟩
        rw [hnil] at this
        cases this
    · exact Nat.testBit_lt_two_pow (Nat.lt_of_lt_of_le hg (Nat.pow_le_pow_right (by decide) (by omega)))
  omega
theorem selK_mem {A : List ByteArray} {g k : Nat} {x : ByteArray} (hk : k ≤ A.length) (h : x ∈ selK A g k) : x ∈ A := by
  unfold selK at h
  obtain ⟨i, hi, rfl⟩ := List.mem_map.1 h
  have := List.mem_range.1 (List.mem_filter.1 hi).1
  rw [List.getD_eq_getElem?_getD, List.getElem?_eq_getElem (by omega)]
  exact List.getElem_mem (by omega)
theorem parse_text {A F X : List ByteArray} (h : sigErr A F X = 0) {g : Nat} (h0 : 1 ≤ g) (hg : g < 2 ^ A.length) :
    parseV A F X (joinV (selK A g A.length)) = (g, 0) ∧ (partsB (joinV (selK A g A.length))).length = popK g A.length := by
  obtain ⟨h1, h2, h3, h4, h5⟩ := sigErr_ok h
  have hnm : ∀ x ∈ selK A g A.length, nameV x = true := fun x hx => (h4 x (by simp [selK_mem (Nat.le_refl _) hx])).1
  have hp := parts_join _ (selK_ne A h0 hg) hnm
  refine ⟨?_, by rw [hp, selK_length]⟩
  unfold parseV
  rw [if_pos h, hp, if_pos (List.all_eq_true.2 hnm)]
  exact back_group (List.nodup_append.1 h5).1 g hg
/-! the order of names -/
def ix (A : List ByteArray) (x : ByteArray) : Nat := (Lib.idxOfS A x).toNat
def maskL (A l : List ByteArray) (m : Nat) : Nat := l.foldl (fun m x => m ||| 2 ^ ix A x) m
theorem ix_inj {A : List ByteArray} {x y : ByteArray} (hx : x ∈ A) (hy : y ∈ A) (h : ix A x = ix A y) : x = y := by
  obtain ⟨i, h1, h2, h3⟩ := idx_mem hx
  obtain ⟨j, h4, h5, h6⟩ := idx_mem hy
  unfold ix at h
  rw [h2, h5, Int.toNat_natCast, Int.toNat_natCast] at h
  subst h
  exact h3.symm.trans h6
theorem ix_lt {A : List ByteArray} {x : ByteArray} (hx : x ∈ A) : ix A x < A.length ∧ Lib.idxOfS A x = (ix A x : Nat) := by
  obtain ⟨i, h1, h2, h3⟩ := idx_mem hx
  unfold ix
  rw [h2, Int.toNat_natCast]
  exact ⟨h1, rfl⟩
theorem maskL_bit (A : List ByteArray) (j : Nat) : ∀ (l : List ByteArray) (m : Nat), (maskL A l m).testBit j = true ↔ m.testBit j = true ∨ ∃ x ∈ l, ix A x = j
  | [], m => by simp [maskL]
  | x :: xs, m => by
    have := maskL_bit A j xs (m ||| 2 ^ ix A x)
    unfold maskL at this ⊢
    rw [List.foldl_cons, this, Nat.testBit_or, Nat.testBit_two_pow, Bool.or_eq_true, decide_eq_true_eq]
    constructor
    · rintro ((h | h) | ⟨y, hy, h⟩)
      · exact .inl h
      · exact .inr ⟨x, by simp, h⟩
      · exact .inr ⟨y, by simp [hy], h⟩
    · rintro (h | ⟨y, hy, h⟩)
      · exact .inl (.inl h)
      · rcases List.mem_cons.1 hy with rfl | hy
        · exact .inl (.inr h)
        · exact .inr ⟨y, hy, h⟩
def Fine (A l : List ByteArray) (m : Nat) : Prop := (∀ x ∈ l, x ∈ A ∧ m.testBit (ix A x) = false) ∧ l.Nodup
theorem Fine.tail {A xs : List ByteArray} {x : ByteArray} {m : Nat} (h : Fine A (x :: xs) m) : Fine A xs (m ||| 2 ^ ix A x) := by
  obtain ⟨h1, h2⟩ := h
  obtain ⟨h3, h4⟩ := List.nodup_cons.1 h2
  refine ⟨fun y hy => ⟨(h1 y (by simp [hy])).1, ?_⟩, h4⟩
  rw [Nat.testBit_or, (h1 y (by simp [hy])).2, Nat.testBit_two_pow, Bool.false_or, decide_eq_false_iff_not]
  intro e
  have := ix_inj (h1 x (by simp)).1 (h1 y (by simp [hy])).1 e
  exact h3 (this ▸ hy)
theorem grp_fine (A : List ByteArray) : ∀ (l : List ByteArray) (m : Nat), Fine A l m → grp A l m = (maskL A l m, 0)
  | [], m, _ => rfl
  | x :: xs, m, h => by
    have hx := h.1 x (by simp)
    obtain ⟨_, hi⟩ := ix_lt hx.1
    rw [grp, if_pos (by omega)]
    show (if m.testBit (ix A x) = true then ((0 : Nat), (7 : Int)) else grp A xs (m ||| 2 ^ ix A x)) = _
    rw [if_neg (by simp [hx.2]), grp_fine A xs _ h.tail]
    rfl
theorem grp_bad (A : List ByteArray) : ∀ (l : List ByteArray) (m : Nat), ¬ Fine A l m → (grp A l m).1 = 0 ∧ (grp A l m).2 ≠ 0
  | [], m, h => absurd ⟨by simp, List.nodup_nil⟩ h
  | x :: xs, m, h => by
    rw [grp]
    by_cases hx : x ∈ A
    · obtain ⟨_, hi⟩ := ix_lt hx
      rw [if_pos (by omega)]
      show ((if m.testBit (ix A x) = true then ((0 : Nat), (7 : Int)) else grp A xs (m ||| 2 ^ ix A x)).1 = 0) ∧ (if m.testBit (ix A x) = true then ((0 : Nat), (7 : Int)) else grp A xs (m ||| 2 ^ ix A x)).2 ≠ 0
      cases hb : m.testBit (ix A x)
      · simp only [Bool.false_eq_true, if_false]
        refine grp_bad A xs _ (fun hf => h ⟨fun y hy => ?_, List.nodup_cons.2 ⟨fun hxs => ?_, hf.2⟩⟩)
        · rcases List.mem_cons.1 hy with rfl | hy
          · exact ⟨hx, hb⟩
          · have := hf.1 y hy
            rw [Nat.testBit_or, Bool.or_eq_false_iff] at this
            exact ⟨this.1, this.2.1⟩
        · have := (hf.1 x hxs).2
          rw [Nat.testBit_or, Nat.testBit_two_pow] at this
          simp at this
      · simp
    · rw [if_neg (by rw [idx_miss hx]; decide)]
      simp
theorem fine_rev {A l : List ByteArray} {m : Nat} : Fine A l.reverse m ↔ Fine A l m := by
  have e : l.reverse.Nodup ↔ l.Nodup := by
    unfold List.Nodup
    rw [List.pairwise_reverse]
    exact ⟨fun h => h.imp fun h => h.symm, fun h => h.imp fun h => h.symm⟩
  unfold Fine
  rw [e]
  simp
theorem maskL_rev (A l : List ByteArray) (m : Nat) : maskL A l.reverse m = maskL A l m := by
  apply Nat.eq_of_testBit_eq
  intro j
  have h : (maskL A l.reverse m).testBit j = true ↔ (maskL A l m).testBit j = true := by
    rw [maskL_bit, maskL_bit]; simp
  cases h1 : (maskL A l m).testBit j
  · cases h2 : (maskL A l.reverse m).testBit j
    · rfl
    · rw [h.1 h2] at h1; cases h1
  · exact h.2 h1
theorem popK_or (m i : Nat) (hb : m.testBit i = false) : ∀ K, popK (m ||| 2 ^ i) K = popK m K + (if i < K then 1 else 0)
  | 0 => by simp [popK]
  | K + 1 => by
    rw [popK_succ, popK_succ, popK_or m i hb K, Nat.testBit_or, Nat.testBit_two_pow]
    by_cases h : i = K
    · subst h; simp [hb]
    · by_cases h2 : i < K
      · simp [h, h2, show i < K + 1 by omega]; omega
      · simp [h, h2, show ¬ i < K + 1 by omega]
theorem pop_mask (A : List ByteArray) : ∀ (l : List ByteArray) (m : Nat), Fine A l m → popK (maskL A l m) A.length = popK m A.length + l.length
  | [], m, _ => rfl
  | x :: xs, m, h => by
    have hx := h.1 x (by simp)
    have := pop_mask A xs _ h.tail
    unfold maskL at this ⊢
    rw [List.foldl_cons, this, popK_or m _ hx.2, if_pos (ix_lt hx.1).1, List.length_cons]
    omega
theorem pop_zero (K : Nat) : popK 0 K = 0 := by
  unfold popK
  simp
theorem fine_zero (A l : List ByteArray) : Fine A l 0 ↔ (∀ x ∈ l, x ∈ A) ∧ l.Nodup := by
  unfold Fine
  simp
theorem maskL_lt {A l : List ByteArray} (h : Fine A l 0) : maskL A l 0 < 2 ^ A.length := by
  apply Nat.lt_pow_two_of_testBit
  intro j hj
  cases hb : (maskL A l 0).testBit j
  · rfl
  · rcases (maskL_bit A j l 0).1 hb with h1 | ⟨x, hx, h1⟩
    · simp at h1
    · have := (ix_lt ((h.1 x hx).1)).1
      omega
/-- groups of a list and of the list turned round -/
theorem group_turned (A F X l : List ByteArray) : (groupV A F X l.reverse).1 = (groupV A F X l).1 ∧ ((groupV A F X l.reverse).2 = 0 ↔ (groupV A F X l).2 = 0) ∧
    ((groupV A F X l).2 = 0 → sigErr A F X = 0 ∧ (groupV A F X l).1 < 2 ^ A.length ∧ popK (groupV A F X l).1 A.length = l.length ∧ ∀ x ∈ l, x ∈ A ∧ (groupV A F X l).1.testBit (ix A x) = true) := by
  unfold groupV
  by_cases h : sigErr A F X = 0
  · simp only [h, if_true]
    by_cases hl : l = []
    · subst hl; simp
    · have hr : l.reverse ≠ [] := by simpa using hl
      simp only [hl, hr, if_false]
      by_cases hf : Fine A l 0
      · have hf' := fine_rev.2 hf
        rw [grp_fine A l 0 hf, grp_fine A l.reverse 0 hf', maskL_rev]
        refine ⟨rfl, Iff.rfl, fun _ => ⟨trivial, maskL_lt hf, ?_, fun x hx => ⟨(hf.1 x hx).1, (maskL_bit A _ l 0).2 (.inr ⟨x, hx, rfl⟩)⟩⟩⟩
        have := pop_mask A l 0 hf
        rw [pop_zero] at this
        show popK (maskL A l 0) A.length = l.length
        omega
      · have h1 := grp_bad A l 0 hf
        have h2 := grp_bad A l.reverse 0 (fun x => hf (fine_rev.1 x))
        exact ⟨by rw [h1.1, h2.1], ⟨fun e => absurd e h2.2, fun e => absurd e h1.2⟩, fun e => absurd e h1.2⟩
  · rw [if_neg h, if_neg h]
    exact ⟨rfl, Iff.rfl, fun e => absurd e h⟩
/-! each name lies at its place -/
theorem apart_agent {A F X : List ByteArray} (h : sigErr A F X = 0) : (∀ k, k < A.length → Lib.idxOfS A (A.getD k ByteArray.empty) = k ∧ Lib.idxOfS F (A.getD k ByteArray.empty) = -1 ∧ Lib.idxOfS X (A.getD k ByteArray.empty) = -1) ∧
    (∀ k, k < F.length → Lib.idxOfS F (F.getD k ByteArray.empty) = k ∧ Lib.idxOfS A (F.getD k ByteArray.empty) = -1 ∧ Lib.idxOfS X (F.getD k ByteArray.empty) = -1) ∧
    (∀ k, k < X.length → Lib.idxOfS X (X.getD k ByteArray.empty) = k ∧ Lib.idxOfS A (X.getD k ByteArray.empty) = -1 ∧ Lib.idxOfS F (X.getD k ByteArray.empty) = -1 ∧ resV (X.getD k ByteArray.empty) = false ∧ nameV (X.getD k ByteArray.empty) = true) := by
  obtain ⟨_, _, _, h4, h5⟩ := sigErr_ok h
  obtain ⟨hA, hFX, hd⟩ := List.nodup_append.1 h5
  obtain ⟨hF, hX, hd2⟩ := List.nodup_append.1 hFX
  have mem : ∀ (l : List ByteArray) k, k < l.length → l.getD k ByteArray.empty ∈ l := fun l k hk => by
    rw [List.getD_eq_getElem?_getD, List.getElem?_eq_getElem hk]; exact List.getElem_mem hk
  refine ⟨fun k hk => ⟨idx_at hA hk, idx_miss fun hm => ?_, idx_miss fun hm => ?_⟩, fun k hk => ⟨idx_at hF hk, idx_miss fun hm => ?_, idx_miss fun hm => ?_⟩, fun k hk => ⟨idx_at hX hk, idx_miss fun hm => ?_, idx_miss fun hm => ?_, ?_, ?_⟩⟩
  · exact hd _ (mem A k hk) _ (List.mem_append.2 (.inl hm)) rfl
  · exact hd _ (mem A k hk) _ (List.mem_append.2 (.inr hm)) rfl
  · exact hd _ hm _ (List.mem_append.2 (.inl (mem F k hk))) rfl
  · exact hd2 _ (mem F k hk) _ hm rfl
  · exact hd _ hm _ (List.mem_append.2 (.inr (mem X k hk))) rfl
  · exact hd2 _ hm _ (mem X k hk) rfl
  · exact (h4 _ (List.mem_append.2 (.inr (List.mem_append.2 (.inr (mem X k hk)))))).2
  · exact (h4 _ (List.mem_append.2 (.inr (List.mem_append.2 (.inr (mem X k hk)))))).1
end Go.Proofs.Ws
