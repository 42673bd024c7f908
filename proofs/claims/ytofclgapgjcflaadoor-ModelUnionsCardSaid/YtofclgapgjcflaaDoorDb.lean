/- Layer 13: other numbers, unions and groups. -/
import Derived.Test.YtofclgapgjcflaaDoorDa
namespace Go.Proofs.Ws
theorem pigeon : ∀ (n : Nat) (f : Nat → Nat), (∀ i, i < n → f i < n) → (∀ i j, i < n → j < n → f i = f j → i = j) → ∀ j, j < n → ∃ i, i < n ∧ f i = j
  | 0, _, _, _, j, hj => absurd hj (by omega)
  | n + 1, f, hf, hi, j, hj => by
    have hg1 : ∀ i, i < n → (if f i = n then f n else f i) < n := fun i h => by
      have h1 := hf i (by omega)
      have h2 := hf n (by omega)
      split
      · rename_i e
        rcases Nat.lt_or_ge (f n) n with h' | h'
        · exact h'
        · have := hi i n (by omega) (by omega) (by omega); omega
      · omega
    have hg2 : ∀ i k, i < n → k < n → (if f i = n then f n else f i) = (if f k = n then f n else f k) → i = k := fun i k h1 h2 h => by
      split at h <;> split at h
      · exact hi i k (by omega) (by omega) (by omega)
      · have := hi n k (by omega) (by omega) h; omega
      · have := hi i n (by omega) (by omega) h; omega
      · exact hi i k (by omega) (by omega) h
    have ih := pigeon n (fun i => if f i = n then f n else f i) hg1 hg2
    by_cases h1 : j = f n
    · exact ⟨n, by omega, h1.symm⟩
    · by_cases h2 : j = n
      · have h3 := hf n (by omega)
        obtain ⟨i, hin, he⟩ := ih (f n) (by omega)
        split at he
        · rename_i e; exact ⟨i, by omega, by omega⟩
        · have := hi i n (by omega) (by omega) he; omega
      · obtain ⟨i, hin, he⟩ := ih j (by omega)
        split at he
        · omega
        · exact ⟨i, by omega, he⟩
/-- a list of the numbers below n, each once -/
structure PermL (n : Nat) (to : List Int) : Prop where
  len : to.length = n
  rng : ∀ i, i < n → 0 ≤ to.getD i 0 ∧ to.getD i 0 < n
  inj : ∀ i j, i < n → j < n → to.getD i 0 = to.getD j 0 → i = j
/-- the inverse of a list -/
structure IsInv (n : Nat) (to : List Int) (l : List Nat) : Prop where
  len : l.length = n
  at_ : ∀ i, i < n → l.getD i 0 < n ∧ to.getD (l.getD i 0) 0 = (i : Int)
theorem PermL.sur {n : Nat} {to : List Int} (h : PermL n to) {j : Nat} (hj : j < n) : ∃ i, i < n ∧ to.getD i 0 = (j : Int) := by
  obtain ⟨i, h1, h2⟩ := pigeon n (fun i => (to.getD i 0).toNat) (fun i hi => by have := h.rng i hi; omega)
    (fun i k hi hk e => h.inj i k hi hk (by have := h.rng i hi; have := h.rng k hk; omega)) j hj
  exact ⟨i, h1, by have := h.rng i h1; omega⟩
theorem IsInv.perm {n : Nat} {to : List Int} {l : List Nat} (a : IsInv n to l) (hl : to.length = n) : PermL n to := by
  have key : ∀ w, w < n → ∃ i, i < n ∧ l.getD i 0 = w := pigeon n (fun i => l.getD i 0) (fun i hi => (a.at_ i hi).1) (fun i k hi hk e => by
    have h1 := (a.at_ i hi).2
    have h2 := (a.at_ k hk).2
    rw [e] at h1
    omega)
  refine ⟨hl, fun w hw => ?_, fun w v hw hv e => ?_⟩
  · obtain ⟨i, hi, rfl⟩ := key w hw
    have := (a.at_ i hi).2
    omega
  · obtain ⟨i, hi, rfl⟩ := key w hw
    obtain ⟨k, hk, rfl⟩ := key v hv
    have h1 := (a.at_ i hi).2
    have h2 := (a.at_ k hk).2
    have : i = k := by omega
    rw [this]
theorem IsInv.unique {n : Nat} {to : List Int} {l k : List Nat} (h : PermL n to) (a : IsInv n to l) (b : IsInv n to k) : l = k := by
  apply List.ext_getElem (a.len.trans b.len.symm)
  intro i h1 h2
  have hi : i < n := by have := a.len; omega
  have e1 := a.at_ i hi
  have e2 := b.at_ i hi
  have := h.inj _ _ e1.1 e2.1 (by rw [e1.2, e2.2])
  simpa [h1, h2] using this
def invL (n : Nat) (to : List Int) : List Nat := (List.range n).map (fun i : Nat => to.findIdx (fun x : Int => decide (x = (i : Int))))
theorem invL_len (n : Nat) (to : List Int) : (invL n to).length = n := by simp [invL]
theorem invL_at (n : Nat) (to : List Int) {i : Nat} (h : i < n) : (invL n to).getD i 0 = to.findIdx (fun x => decide (x = (i : Int))) := by simp [invL, h]
theorem PermL.inv {n : Nat} {to : List Int} (h : PermL n to) : IsInv n to (invL n to) := by
  refine ⟨invL_len n to, fun i hi => ?_⟩
  obtain ⟨w, hw, e⟩ := h.sur hi
  rw [invL_at n to hi]
  have hl := h.len
  have hex : to.findIdx (fun x => decide (x = (i : Int))) < to.length := by
    rw [List.findIdx_lt_length]
    refine ⟨to.getD w 0, ?_, by simpa using e⟩
    rw [List.getD_eq_getElem?_getD, List.getElem?_eq_getElem (by omega)]
    exact List.getElem_mem _
  refine ⟨by omega, ?_⟩
  have := List.findIdx_getElem (w := hex)
  rw [List.getD_eq_getElem?_getD, List.getElem?_eq_getElem hex]
  simpa using this
/-- is it a list of the numbers below n? -/
def permB (n : Nat) (to : List Int) : Bool := decide (to.length = n) && (List.range n).all (fun i => decide ((invL n to).getD i 0 < n) && decide (to.getD ((invL n to).getD i 0) 0 = (i : Int)))
theorem permB_iff (n : Nat) (to : List Int) : permB n to = true ↔ PermL n to := by
  unfold permB
  rw [Bool.and_eq_true, List.all_eq_true]
  constructor
  · rintro ⟨h1, h2⟩
    refine IsInv.perm ⟨invL_len n to, fun i hi => ?_⟩ (of_decide_eq_true h1)
    have := h2 i (List.mem_range.2 hi)
    rw [Bool.and_eq_true, decide_eq_true_eq, decide_eq_true_eq] at this
    exact this
  · intro h
    refine ⟨decide_eq_true h.len, fun i hi => ?_⟩
    rw [Bool.and_eq_true, decide_eq_true_eq, decide_eq_true_eq]
    exact h.inv.at_ i (List.mem_range.1 hi)
/-- the program's walk through a list: the first k numbers are fine -/
structure PreP (n : Nat) (to : List Int) (k : Nat) : Prop where
  rng : ∀ i, i < k → 0 ≤ to.getD i 0 ∧ to.getD i 0 < n
  inj : ∀ i j, i < k → j < k → to.getD i 0 = to.getD j 0 → i = j
def seenK (to : List Int) : Nat → Nat
  | 0 => 0
  | k + 1 => seenK to k ||| 2 ^ (to.getD k 0).toNat
def frK (n : Nat) (to : List Int) : Nat → List Nat
  | 0 => List.replicate n 0
  | k + 1 => (frK n to k).set (to.getD k 0).toNat k
theorem frK_len (n : Nat) (to : List Int) : ∀ k, (frK n to k).length = n
  | 0 => by simp [frK]
  | k + 1 => by rw [frK, List.length_set]; exact frK_len n to k
theorem seenK_bit {n : Nat} {to : List Int} : ∀ {k : Nat}, PreP n to k → ∀ i : Nat, (seenK to k).testBit i = true ↔ ∃ j, j < k ∧ to.getD j 0 = (i : Int)
  | 0, _, i => by
    rw [seenK, Nat.zero_testBit]
    exact ⟨fun h => (by cases h), fun ⟨j, hj, _⟩ => absurd hj (by omega)⟩
  | k + 1, h, i => by
    have ih := seenK_bit (k := k) ⟨fun i hi => h.rng i (by omega), fun i j hi hj => h.inj i j (by omega) (by omega)⟩ i
    rw [seenK, Nat.testBit_or, Bool.or_eq_true, ih, Nat.testBit_two_pow]
    have hr := h.rng k (by omega)
    constructor
    · rintro (⟨j, h1, h2⟩ | h1)
      · exact ⟨j, by omega, h2⟩
      · have := of_decide_eq_true h1
        exact ⟨k, by omega, by omega⟩
    · rintro ⟨j, h1, h2⟩
      by_cases e : j = k
      · subst e; exact .inr (decide_eq_true (by omega))
      · exact .inl ⟨j, by omega, h2⟩
theorem seenK_lt {n : Nat} {to : List Int} {k : Nat} (h : PreP n to k) : seenK to k < 2 ^ n := lt_of_sub fun i hi => by
  obtain ⟨j, h1, h2⟩ := (seenK_bit h i).1 hi
  have := h.rng j h1
  omega
theorem PreP.zero (n : Nat) (to : List Int) : PreP n to 0 := ⟨fun i hi => absurd hi (by omega), fun i j hi _ => absurd hi (by omega)⟩
theorem PreP.next {n : Nat} {to : List Int} {k : Nat} (h : PreP n to k) (h0 : 0 ≤ to.getD k 0) (h1 : to.getD k 0 < n) (h2 : (seenK to k).testBit (to.getD k 0).toNat = false) : PreP n to (k + 1) := by
  have hn : ∀ j, j < k → to.getD j 0 ≠ to.getD k 0 := fun j hj e => by
    have := (seenK_bit h (to.getD k 0).toNat).2 ⟨j, hj, by omega⟩
    rw [h2] at this; cases this
  refine ⟨fun i hi => ?_, fun i j hi hj e => ?_⟩
  · by_cases e : i = k
    · subst e; exact ⟨h0, h1⟩
    · exact h.rng i (by omega)
  · by_cases e1 : i = k
    · by_cases e2 : j = k
      · omega
      · subst e1; exact absurd e.symm (hn j (by omega))
    · by_cases e2 : j = k
      · subst e2; exact absurd e (hn i (by omega))
      · exact h.inj i j (by omega) (by omega) e
theorem PermL.not_low {n : Nat} {to : List Int} {k : Nat} (hk : k < n) (h : to.getD k 0 < 0 ∨ (n : Int) ≤ to.getD k 0) : ¬ PermL n to := fun p => by
  have := p.rng k hk; omega
theorem PreP.not_seen {n : Nat} {to : List Int} {k : Nat} (h : PreP n to k) (hk : k < n) (h0 : 0 ≤ to.getD k 0) (h2 : (seenK to k).testBit (to.getD k 0).toNat = true) : ¬ PermL n to := fun p => by
  obtain ⟨j, h3, h4⟩ := (seenK_bit h _).1 h2
  have := p.inj j k (by omega) hk (by omega)
  omega
theorem frK_at {n : Nat} {to : List Int} : ∀ {k : Nat}, PreP n to k → ∀ j, j < k → (frK n to k).getD (to.getD j 0).toNat 0 = j
  | 0, _, j, hj => absurd hj (by omega)
  | k + 1, h, j, hj => by
    have h' : PreP n to k := ⟨fun i hi => h.rng i (by omega), fun i j hi hj => h.inj i j (by omega) (by omega)⟩
    have hl := frK_len n to k
    have hr := h.rng k (by omega)
    have hrj := h.rng j hj
    rw [frK, List.getD_eq_getElem?_getD, List.getElem?_set]
    by_cases e : j = k
    · subst e
      rw [if_pos rfl, if_pos (by omega)]; rfl
    · rw [if_neg (fun e2 => e (h.inj j k hj (by omega) (by omega)))]
      rw [← List.getD_eq_getElem?_getD]
      exact frK_at h' j (by omega)
theorem PreP.perm {n : Nat} {to : List Int} (h : PreP n to n) (hl : to.length = n) : PermL n to := ⟨hl, h.rng, h.inj⟩
theorem PreP.fin {n : Nat} {to : List Int} (h : PreP n to n) (hl : to.length = n) : frK n to n = invL n to := by
  have p := h.perm hl
  refine IsInv.unique p ⟨frK_len n to n, fun i hi => ?_⟩ p.inv
  obtain ⟨w, hw, e⟩ := p.sur hi
  have h1 := frK_at h w hw
  rw [e] at h1
  rw [show ((i : Int)).toNat = i from rfl] at h1
  rw [h1]
  exact ⟨hw, e⟩
/-- the reference's walk -/
def posL (to : List Int) (i k : Nat) : List Nat := (List.range k).filter (fun w => decide (to.getD w 0 = (i : Int)))
theorem posL_hit (to : List Int) (i k : Nat) (h : to.getD k 0 = (i : Int)) : posL to i (k + 1) = posL to i k ++ [k] := by
  unfold posL; rw [List.range_succ, List.filter_append]; simp only [List.filter_cons, List.filter_nil, decide_eq_true h, if_true]
theorem posL_miss (to : List Int) (i k : Nat) (h : ¬ to.getD k 0 = (i : Int)) : posL to i (k + 1) = posL to i k := by
  unfold posL; rw [List.range_succ, List.filter_append]; simp only [List.filter_cons, List.filter_nil, decide_eq_false h]; simp
theorem posL_le (to : List Int) (i k : Nat) : (posL to i k).length ≤ k := by
  have := List.length_filter_le (fun w => decide (to.getD w 0 = (i : Int))) (List.range k)
  unfold posL
  simpa using this
theorem PermL.pos {n : Nat} {to : List Int} (h : PermL n to) {i w : Nat} (hw : w < n) (e : to.getD w 0 = (i : Int)) : ∀ k, k ≤ n → posL to i k = if w < k then [w] else []
  | 0, _ => by rw [if_neg (by omega)]; rfl
  | k + 1, hk => by
    have ih := h.pos hw e k (by omega)
    by_cases h1 : to.getD k 0 = (i : Int)
    · have : k = w := h.inj k w (by omega) hw (by rw [h1, e])
      subst this
      rw [posL_hit to i k h1, ih, if_neg (by omega), if_pos (by omega)]; rfl
    · rw [posL_miss to i k h1, ih]
      have : k ≠ w := fun e2 => h1 (by rw [e2]; exact e)
      by_cases h2 : w < k
      · rw [if_pos h2, if_pos (by omega)]
      · rw [if_neg h2, if_neg (by omega)]
theorem PermL.pos_one {n : Nat} {to : List Int} (h : PermL n to) {i : Nat} (hi : i < n) : (posL to i n).length = 1 := by
  obtain ⟨w, hw, e⟩ := h.sur hi
  rw [h.pos hw e n (Nat.le_refl _), if_pos hw]; rfl
/-- the inverse of the first i numbers -/
structure InvK (n : Nat) (to : List Int) (i : Nat) (l : List Nat) : Prop where
  len : l.length = i
  at_ : ∀ j, j < i → l.getD j 0 < n ∧ to.getD (l.getD j 0) 0 = (j : Int)
theorem InvK.zero (n : Nat) (to : List Int) : InvK n to 0 [] := ⟨rfl, fun j hj => absurd hj (by omega)⟩
theorem InvK.next {n i : Nat} {to : List Int} {l : List Nat} (h : InvK n to i l) (h1 : (posL to i n).length = 1) : InvK n to (i + 1) (l ++ posL to i n) := by
  obtain ⟨w, hw⟩ : ∃ w, posL to i n = [w] := List.length_eq_one_iff.1 h1
  have hm : w ∈ posL to i n := by rw [hw]; exact List.mem_singleton.2 rfl
  unfold posL at hm
  rw [List.mem_filter, List.mem_range, decide_eq_true_eq] at hm
  rw [hw]
  have hl := h.len
  refine ⟨by rw [List.length_append, hl]; rfl, fun j hj => ?_⟩
  by_cases e : j = i
  · subst e
    have : (l ++ [w]).getD j 0 = w := by rw [List.getD_eq_getElem?_getD, List.getElem?_append_right (by omega)]; simp [hl]
    rw [this]; exact hm
  · have : (l ++ [w]).getD j 0 = l.getD j 0 := by rw [List.getD_eq_getElem?_getD, List.getElem?_append_left (by omega), ← List.getD_eq_getElem?_getD]
    rw [this]; exact h.at_ j (by omega)
theorem InvK.fin {n : Nat} {to : List Int} {l : List Nat} (h : InvK n to n l) (hl : to.length = n) : PermL n to ∧ l = invL n to := by
  have a : IsInv n to l := ⟨h.len, h.at_⟩
  have p := a.perm hl
  exact ⟨p, a.unique p p.inv⟩
theorem invL_lt {n : Nat} {to : List Int} (h : PermL n to) : ∀ x ∈ invL n to, x < n := fun x hx => by
  obtain ⟨i, hi, rfl⟩ := List.getElem_of_mem hx
  rw [invL_len] at hi
  have := (h.inv.at_ i hi).1
  simpa [invL_len, hi] using this
/-- the model with other numbers, and its error -/
def renE (m : Mo) (to : List Int) : Int := if chkM m = 0 then (if permB m.n.toNat to then 0 else 1) else chkM m
def mo0 : Mo := ⟨0, [], []⟩
def renM (m : Mo) (to : List Int) : Mo := if chkM m = 0 ∧ permB m.n.toNat to = true then pickM m (invL m.n.toNat to) else mo0
/-- the union -/
def unionE (a b : Mo) : Int := if chkM a ≠ 0 then chkM a else if chkM b ≠ 0 then chkM b else if a.rel.length ≠ b.rel.length ∨ a.val.length ≠ b.val.length then 1 else if 64 < a.n + b.n then 8 else 0
def shR (r : List Nat) (k : Nat) : List Nat := r.map (fun x => x * 2 ^ k)
def unionV (a b : Mo) (i : Nat) : Nat := a.val.getD i 0 ||| (b.val.getD i 0) * 2 ^ a.n.toNat
def unionR (a b : Mo) (i : Nat) : List Nat := a.rel.getD i [] ++ shR (b.rel.getD i []) a.n.toNat
def unionM (a b : Mo) : Mo := if unionE a b = 0 then ⟨a.n + b.n, (List.range a.val.length).map (unionV a b), (List.range a.rel.length).map (unionR a b)⟩ else mo0
/-- the relations of a group -/
def gorK (rel : List (List Nat)) (g w : Nat) : Nat → Nat
  | 0 => 0
  | k + 1 => if g.testBit k then gorK rel g w k ||| (rel.getD k []).getD w 0 else gorK rel g w k
def gandK (s : Nat) (rel : List (List Nat)) (g w : Nat) : Nat → Nat
  | 0 => s
  | k + 1 => if g.testBit k then gandK s rel g w k &&& (rel.getD k []).getD w 0 else gandK s rel g w k
def isG (m : Mo) (g : Int) : Bool := decide (chkM m = 0) && decide (1 ≤ g) && decide (g < 2 ^ m.rel.length)
def groupL (m : Mo) (g : Int) : List Nat := if isG m g then (List.range m.n.toNat).map (fun w => gorK m.rel g.toNat w m.rel.length) else []
def meetL (m : Mo) (g : Int) : List Nat := if isG m g then (List.range m.n.toNat).map (fun w => gandK 18446744073709551615 m.rel g.toNat w m.rel.length) else []
theorem gandK_and (s t : Nat) (rel : List (List Nat)) (g w : Nat) : ∀ k, gandK (s &&& t) rel g w k = s &&& gandK t rel g w k
  | 0 => rfl
  | k + 1 => by
    have ih := gandK_and s t rel g w k
    unfold gandK
    split
    · rw [ih, Nat.and_assoc]
    · exact ih
theorem relW_lt {rel : List (List Nat)} {n : Nat} (h : ∀ r ∈ rel, ∀ x ∈ r, x < 2 ^ n) (k w : Nat) : (rel.getD k []).getD w 0 < 2 ^ n := by
  by_cases hk : k < rel.length
  · have e : rel.getD k [] = rel[k] := by simp [hk]
    rw [e]
    by_cases hw : w < rel[k].length
    · rw [List.getD_eq_getElem?_getD, List.getElem?_eq_getElem hw]
      exact h _ (List.getElem_mem _) _ (List.getElem_mem hw)
    · rw [List.getD_eq_getElem?_getD, List.getElem?_eq_none (by omega)]
      exact Nat.two_pow_pos n
  · have e : rel.getD k [] = [] := by rw [List.getD_eq_getElem?_getD, List.getElem?_eq_none (by omega)]; rfl
    rw [e]
    exact Nat.two_pow_pos n
theorem gandK_lt {rel : List (List Nat)} {n s g w : Nat} (h : ∀ r ∈ rel, ∀ x ∈ r, x < 2 ^ n) : ∀ k, (∃ j, j < k ∧ g.testBit j = true) → gandK s rel g w k < 2 ^ n
  | 0, ⟨j, hj, _⟩ => absurd hj (by omega)
  | k + 1, ⟨j, hj, hb⟩ => by
    unfold gandK
    split
    · exact Nat.lt_of_le_of_lt Nat.and_le_right (relW_lt h k w)
    · rename_i hg
      refine gandK_lt h k ⟨j, ?_, hb⟩
      by_cases e : j = k
      · subst e; exact absurd hb hg
      · omega
theorem gorK_lt {rel : List (List Nat)} {n g w : Nat} (h : ∀ r ∈ rel, ∀ x ∈ r, x < 2 ^ n) : ∀ k, gorK rel g w k < 2 ^ n
  | 0 => Nat.two_pow_pos n
  | k + 1 => by
    have ih := gorK_lt (g := g) (w := w) h k
    unfold gorK
    split
    · exact Nat.or_lt_two_pow ih (relW_lt h k w)
    · exact ih
theorem gandK_le (s : Nat) (rel : List (List Nat)) (g w : Nat) : ∀ k, gandK s rel g w k ≤ s
  | 0 => Nat.le_refl _
  | k + 1 => by
    have ih := gandK_le s rel g w k
    unfold gandK
    split
    · exact Nat.le_trans Nat.and_le_left ih
    · exact ih
theorem some_bit {g k : Nat} (h0 : 0 < g) (h : g < 2 ^ k) : ∃ j, j < k ∧ g.testBit j = true := by
  apply Classical.byContradiction
  intro hn
  have : g = 0 := SubS.antisymm (fun i hi => absurd ⟨i, bit_lt h hi, hi⟩ hn) (SubS.zero g)
  omega
theorem gandK_full {rel : List (List Nat)} {n g w k : Nat} (hn : n ≤ 64) (h : ∀ r ∈ rel, ∀ x ∈ r, x < 2 ^ n) (h0 : 0 < g) (hg : g < 2 ^ k) : gandK (2 ^ n - 1) rel g w k = gandK 18446744073709551615 rel g w k := by
  have e : 2 ^ n - 1 = (2 ^ n - 1) &&& 18446744073709551615 := by
    have : 2 ^ n - 1 < 2 ^ 64 := by have := Nat.pow_le_pow_right (show 0 < 2 by decide) hn; have := Nat.two_pow_pos n; omega
    rw [show (18446744073709551615 : Nat) = 2 ^ 64 - 1 from by decide, Nat.and_two_pow_sub_one_eq_mod, Nat.mod_eq_of_lt this]
  have h2 := gandK_lt (s := 18446744073709551615) (w := w) h k (some_bit h0 hg)
  rw [e, gandK_and, Nat.and_comm, Nat.and_two_pow_sub_one_eq_mod, Nat.mod_eq_of_lt h2]
end Go.Proofs.Ws
