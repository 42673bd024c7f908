/- Layer 13: a restriction restricted again. -/
import Derived.Test.YtofclgapgjcflaaDoorDb
namespace Go.Proofs.Ws
/-- the members of a set of numbers, counted by another set -/
theorem ix_bit (l : List Nat) (s i : Nat) : (ix l s).testBit i = (decide (i < l.length) && s.testBit (l.getD i 0)) := by
  unfold ix ixN
  rw [bitsN_bit]
theorem ix_lt (l : List Nat) (s : Nat) : ix l s < 2 ^ l.length := bitsN_lt _ _
theorem ix_ix {L K : List Nat} (h : ∀ x ∈ K, x < L.length) (s : Nat) : ix K (ix L s) = ix (K.map (fun x => L.getD x 0)) s := by
  apply Nat.eq_of_testBit_eq
  intro i
  rw [ix_bit, ix_bit, ix_bit, List.length_map]
  by_cases hi : i < K.length
  · have e : K.getD i 0 = K[i] := by simp [hi]
    have e2 : (K.map (fun x => L.getD x 0)).getD i 0 = L.getD (K.getD i 0) 0 := by simp [hi]
    rw [e2, decide_eq_true hi, decide_eq_true (show K.getD i 0 < L.length by rw [e]; exact h _ (List.getElem_mem hi))]
    simp
  · rw [decide_eq_false hi]; rfl
theorem pick_pick {m : Mo} {L K : List Nat} (h : ∀ x ∈ K, x < L.length) : pickM (pickM m L) K = pickM m (K.map (fun x => L.getD x 0)) := by
  unfold pickM
  simp only [List.map_map, List.length_map, Mo.mk.injEq, true_and]
  constructor
  · apply List.map_congr_left
    intro x _
    exact ix_ix h x
  · apply List.map_congr_left
    intro r _
    simp only [Function.comp]
    apply List.map_congr_left
    intro x hx
    have hl := h x hx
    have e : (L.map (fun w => ix L (r.getD w 0))).getD x 0 = ix L (r.getD (L.getD x 0) 0) := by simp [hl]
    rw [e, ix_ix h]; rfl
theorem pick_ok {n : Nat} {m : Mo} {L : List Nat} (ok : OkM n m) (h1 : 1 ≤ L.length) (h2 : L.length ≤ 64) : OkM L.length (pickM m L) := by
  refine ⟨rfl, h1, h2, by unfold pickM; simpa using ok.agents, by unfold pickM; simpa using ok.facts, fun r hr => ?_, fun x hx => ?_, fun r hr x hx => ?_⟩
  · unfold pickM at hr
    obtain ⟨q, _, rfl⟩ := List.mem_map.1 hr
    simp
  · unfold pickM at hx
    obtain ⟨q, _, rfl⟩ := List.mem_map.1 hx
    exact ix_lt L q
  · unfold pickM at hr
    obtain ⟨q, _, rfl⟩ := List.mem_map.1 hr
    obtain ⟨y, _, rfl⟩ := List.mem_map.1 hx
    exact ix_lt L _
theorem pick_fact {n : Nat} {m : Mo} {L : List Nat} (ok : OkM n m) (h1 : 1 ≤ L.length) (h2 : L.length ≤ 64) (hL : ∀ x ∈ L, x < n) {i : Nat} (hi : i < L.length) :
    factV (pickM m L) (i : Int) = factV m ((L.getD i 0 : Nat) : Int) := by
  have e : L.getD i 0 = L[i] := by simp [hi]
  have hm := hL _ (List.getElem_mem hi)
  rw [← e] at hm
  have o2 := (pick_ok ok h1 h2).chk
  unfold factV
  rw [if_pos ⟨o2, by omega, by show (i : Int) < (L.length : Int); omega⟩, if_pos ⟨ok.chk, by omega, by rw [ok.num]; omega⟩]
  congr 1
  unfold factN
  rw [Int.toNat_natCast, Int.toNat_natCast, show (pickM m L).val.length = m.val.length from by unfold pickM; simp]
  apply bitsN_congr
  intro p hp
  have e2 : (pickM m L).val.getD p 0 = ix L (m.val.getD p 0) := by unfold pickM; simp [hp]
  rw [e2, ix_bit, decide_eq_true hi]; rfl
/-- the set of the first k names -/
def setK (L K : List Nat) : Nat → Nat
  | 0 => 0
  | k + 1 => setK L K k ||| 2 ^ (L.getD (K.getD k 0) 0)
theorem setK_bit (L K : List Nat) : ∀ k i, (setK L K k).testBit i = true ↔ ∃ j, j < k ∧ L.getD (K.getD j 0) 0 = i
  | 0, i => by
    rw [setK, Nat.zero_testBit]
    exact ⟨fun h => (by cases h), fun ⟨j, hj, _⟩ => absurd hj (by omega)⟩
  | k + 1, i => by
    have ih := setK_bit L K k i
    rw [setK, Nat.testBit_or, Bool.or_eq_true, ih, Nat.testBit_two_pow]
    constructor
    · rintro (⟨j, h1, h2⟩ | h)
      · exact ⟨j, by omega, h2⟩
      · exact ⟨k, by omega, of_decide_eq_true h⟩
    · rintro ⟨j, h1, h2⟩
      by_cases e : j = k
      · subst e; exact .inr (decide_eq_true h2)
      · exact .inl ⟨j, by omega, h2⟩
theorem asc_ext : ∀ {a b : List Nat}, a.Pairwise (· < ·) → b.Pairwise (· < ·) → (∀ x, x ∈ a ↔ x ∈ b) → a = b
  | [], [], _, _, _ => rfl
  | [], y :: b, _, _, h => absurd ((h y).2 List.mem_cons_self) (by simp)
  | x :: a, [], _, _, h => absurd ((h x).1 List.mem_cons_self) (by simp)
  | x :: a, y :: b, ha, hb, h => by
    obtain ⟨hx, ha2⟩ := List.pairwise_cons.1 ha
    obtain ⟨hy, hb2⟩ := List.pairwise_cons.1 hb
    have e : x = y := by
      rcases List.mem_cons.1 ((h x).1 List.mem_cons_self) with e | e
      · exact e
      · rcases List.mem_cons.1 ((h y).2 List.mem_cons_self) with e2 | e2
        · exact e2.symm
        · have := hy x e; have := hx y e2; omega
    subst e
    congr 1
    refine asc_ext ha2 hb2 (fun z => ?_)
    constructor
    · intro hz
      rcases List.mem_cons.1 ((h z).1 (List.mem_cons_of_mem _ hz)) with e | e
      · have := hx z hz; omega
      · exact e
    · intro hz
      rcases List.mem_cons.1 ((h z).2 (List.mem_cons_of_mem _ hz)) with e | e
      · have := hy z hz; omega
      · exact e
theorem mem_asc (s : Nat) : (mem s).Pairwise (· < ·) := List.Pairwise.filter _ List.pairwise_lt_range
theorem mem_set {L K : List Nat} (hL : L.Pairwise (· < ·)) (hL64 : ∀ x ∈ L, x < 64) (hK : K.Pairwise (· < ·)) (h : ∀ x ∈ K, x < L.length) :
    mem (setK L K K.length) = K.map (fun x => L.getD x 0) := by
  refine asc_ext (mem_asc _) ?_ (fun x => ?_)
  · rw [List.pairwise_map]
    refine List.Pairwise.imp_of_mem ?_ hK
    intro a b ha hb hab
    have h1 := h a ha
    have h2 := h b hb
    have := List.pairwise_iff_getElem.1 hL a b h1 h2 hab
    simpa [h1, h2] using this
  · rw [mem_iff, setK_bit, List.mem_map]
    constructor
    · rintro ⟨_, j, hj, e⟩
      exact ⟨K.getD j 0, by simp [hj], e⟩
    · rintro ⟨y, hy, rfl⟩
      have h1 := h y hy
      obtain ⟨j, hj, rfl⟩ := List.getElem_of_mem hy
      refine ⟨?_, j, hj, by simp [hj]⟩
      have e : L.getD K[j] 0 = L[K[j]] := by simp [h1]
      rw [e]
      exact hL64 _ (List.getElem_mem h1)
theorem setK_lt {L K : List Nat} {n : Nat} (hL : ∀ x ∈ L, x < n) (h : ∀ x ∈ K, x < L.length) {k : Nat} (hk : k ≤ K.length) : setK L K k < 2 ^ n := lt_of_sub fun i hi => by
  obtain ⟨j, hj, rfl⟩ := (setK_bit L K k i).1 hi
  have hj2 : j < K.length := by omega
  have e0 : K.getD j 0 = K[j] := by simp [hj2]
  have h1 := h _ (List.getElem_mem hj2)
  rw [e0]
  have e : L.getD K[j] 0 = L[K[j]] := by simp [h1]
  rw [e]
  exact hL _ (List.getElem_mem h1)
theorem mem_below {s n : Nat} (h : s < 2 ^ n) : ∀ x ∈ mem s, x < n := fun x hx => bit_lt h ((mem_iff s x).1 hx).2
theorem mem_pos {s : Nat} (h0 : s ≠ 0) (h : s < 18446744073709551616) : 1 ≤ (mem s).length := by
  have := mem_step s h0 h
  rw [this]; simp
theorem setK_ne {L K : List Nat} (h : 1 ≤ K.length) : setK L K K.length ≠ 0 := by
  intro e
  have := (setK_bit L K K.length (L.getD (K.getD 0 0) 0)).2 ⟨0, h, rfl⟩
  rw [e, Nat.zero_testBit] at this
  cases this
end Go.Proofs.Ws
