/- Layer 6: texts joined: Fr27 Fr29. -/
import Derived.Test.YtjpmhbnikoggaaaGreatDoorNIc
import Derived.Test.YtjpmhbnikoggaaaGreatDoorNIo
/- Layer 15: axioms and properties, as plain mathematics. -/
namespace Go.Proofs.YtjpmhbnikoggaaaGreatDoor
open Go.RowKit Go.Proofs.Ws
set_option maxRecDepth 100000
/-- the axiom of a property is true at a world for a set -/
def axQ (p : Int) (l : List Nat) (s w : Nat) : Prop :=
  if p = 1 then (∀ v, bit l w v = true → s.testBit v = true) → ∃ v, bit l w v = true ∧ s.testBit v = true
  else if p = 2 then (∀ v, bit l w v = true → s.testBit v = true) → s.testBit w = true
  else if p = 3 then s.testBit w = true → ∀ v, bit l w v = true → ∃ u, bit l v u = true ∧ s.testBit u = true
  else if p = 4 then (∀ v, bit l w v = true → s.testBit v = true) → ∀ v, bit l w v = true → ∀ u, bit l v u = true → s.testBit u = true
  else (∃ v, bit l w v = true ∧ s.testBit v = true) → ∀ v, bit l w v = true → ∃ u, bit l v u = true ∧ s.testBit u = true
section
variable {l : List Nat} {n : Nat} (h0 : relErr n l = 0) (hl : l.length = n)
include h0 hl
theorem row_lt (w : Nat) : l.getD w 0 < 2 ^ n := by
  by_cases h : w < l.length
  · exact relErr_rows h0 _ (getD_mem h)
  · rw [List.getD_eq_getElem?_getD, List.getElem?_eq_none (by omega)]
    exact Nat.two_pow_pos n
/-- the set that worlds give makes the axiom false -/
theorem refutes (p : Int) (hp : 1 ≤ p ∧ p ≤ 5) (x : List Nat) (hd : DigL n (lenP p) x) (hs : shB p l x = true) : setV p l x < 2 ^ n ∧ ¬ axQ p l (setV p l x) (x.getD 0 0) := by
  have hc : p = 1 ∨ p = 2 ∨ p = 3 ∨ p = 4 ∨ p = 5 := by omega
  rcases hc with rfl | rfl | rfl | rfl | rfl
  · have h1 : decide (l.getD (x.getD 0 0) 0 = 0) = true := hs
    have h1 := of_decide_eq_true h1
    refine ⟨Nat.two_pow_pos n, fun h => ?_⟩
    have h2 : (∀ v, bit l (x.getD 0 0) v = true → (0 : Nat).testBit v = true) → ∃ v, bit l (x.getD 0 0) v = true ∧ (0 : Nat).testBit v = true := h
    have hb : ∀ v, bit l (x.getD 0 0) v = false := fun v => by unfold bit; rw [h1]; simp
    obtain ⟨v, hv, _⟩ := h2 (fun v hv => by rw [hb v] at hv; cases hv)
    rw [hb v] at hv
    cases hv
  · have h1 : (!bit l (x.getD 0 0) (x.getD 0 0)) = true := hs
    refine ⟨row_lt h0 hl _, fun h => ?_⟩
    have h2 : (∀ v, bit l (x.getD 0 0) v = true → (l.getD (x.getD 0 0) 0).testBit v = true) → (l.getD (x.getD 0 0) 0).testBit (x.getD 0 0) = true := h
    have h3 : bit l (x.getD 0 0) (x.getD 0 0) = true := h2 (fun v hv => hv)
    rw [h3] at h1
    cases h1
  · have h1 : (bit l (x.getD 0 0) (x.getD 1 0) && !bit l (x.getD 1 0) (x.getD 0 0)) = true := hs
    rw [Bool.and_eq_true] at h1
    refine ⟨Nat.pow_lt_pow_right (by decide) (hd.at_ (k := 0) (by decide)), fun h => ?_⟩
    have h2 : (2 ^ (x.getD 0 0)).testBit (x.getD 0 0) = true → ∀ v, bit l (x.getD 0 0) v = true → ∃ u, bit l v u = true ∧ (2 ^ (x.getD 0 0)).testBit u = true := h
    obtain ⟨u, hu, h3⟩ := h2 Nat.testBit_two_pow_self _ h1.1
    rw [Nat.testBit_two_pow] at h3
    rw [← of_decide_eq_true h3] at hu
    rw [hu] at h1
    exact absurd h1.2 (by decide)
  · have h1 : (bit l (x.getD 0 0) (x.getD 1 0) && bit l (x.getD 1 0) (x.getD 2 0) && !bit l (x.getD 0 0) (x.getD 2 0)) = true := hs
    rw [Bool.and_eq_true, Bool.and_eq_true] at h1
    refine ⟨row_lt h0 hl _, fun h => ?_⟩
    have h2 : (∀ v, bit l (x.getD 0 0) v = true → (l.getD (x.getD 0 0) 0).testBit v = true) → ∀ v, bit l (x.getD 0 0) v = true → ∀ u, bit l v u = true → (l.getD (x.getD 0 0) 0).testBit u = true := h
    have h3 : bit l (x.getD 0 0) (x.getD 2 0) = true := h2 (fun v hv => hv) _ h1.1.1 _ h1.1.2
    rw [h3] at h1
    exact absurd h1.2 (by decide)
  · have h1 : (bit l (x.getD 0 0) (x.getD 1 0) && bit l (x.getD 0 0) (x.getD 2 0) && !bit l (x.getD 1 0) (x.getD 2 0)) = true := hs
    rw [Bool.and_eq_true, Bool.and_eq_true] at h1
    refine ⟨Nat.pow_lt_pow_right (by decide) (hd.at_ (k := 2) (by decide)), fun h => ?_⟩
    have h2 : (∃ v, bit l (x.getD 0 0) v = true ∧ (2 ^ (x.getD 2 0)).testBit v = true) → ∀ v, bit l (x.getD 0 0) v = true → ∃ u, bit l v u = true ∧ (2 ^ (x.getD 2 0)).testBit u = true := h
    obtain ⟨u, hu, h3⟩ := h2 ⟨_, h1.1.2, Nat.testBit_two_pow_self⟩ _ h1.1.1
    rw [Nat.testBit_two_pow] at h3
    rw [← of_decide_eq_true h3] at hu
    rw [hu] at h1
    exact absurd h1.2 (by decide)
end
end Go.Proofs.YtjpmhbnikoggaaaGreatDoor
/- Layer 15: closing as plain mathematics: a closed model is one of the logic, and closing again changes nothing. -/
namespace Go.Proofs.YtjpmhbnikoggaaaGreatDoor
open Go.RowKit Go.Proofs.Ws
set_option maxRecDepth 100000
theorem serL_get (l : List Nat) (w : Nat) : (serL l).getD w 0 = if w < l.length then (if l.getD w 0 = 0 then 2 ^ w else l.getD w 0) else 0 := by
  unfold serL
  by_cases h : w < l.length
  · rw [if_pos h]
    simp [List.getD_eq_getElem?_getD, h]
  · rw [if_neg h]
    simp [List.getD_eq_getElem?_getD, h]
theorem serL_bit {n : Nat} {l : List Nat} (hl : l.length = n) (w v : Nat) : bit (serL l) w v = true ↔ bit l w v = true ∨ (w < n ∧ l.getD w 0 = 0 ∧ v = w) := by
  unfold bit
  rw [serL_get, hl]
  by_cases h : w < n
  · rw [if_pos h]
    by_cases h0 : l.getD w 0 = 0
    · rw [if_pos h0, h0, Nat.testBit_two_pow]
      simp only [Nat.zero_testBit, Bool.false_eq_true, false_or, decide_eq_true_eq, true_and, h]
      exact ⟨fun e => e.symm, fun e => e.symm⟩
    · rw [if_neg h0]
      exact ⟨fun e => .inl e, fun e => e.elim id (fun k => absurd k.2.1 h0)⟩
  · rw [if_neg h]
    have : l.getD w 0 = 0 := by rw [List.getD_eq_getElem?_getD, List.getElem?_eq_none (by omega)]; rfl
    rw [this]
    simp [h]
theorem bit_ne {l : List Nat} {w v : Nat} (h : bit l w v = true) : l.getD w 0 ≠ 0 := fun e => by
  unfold bit at h
  rw [e] at h
  simp at h
theorem serL_no {l : List Nat} (w : Nat) (hw : w < l.length) : (serL l).getD w 0 ≠ 0 := by
  rw [serL_get, if_pos hw]
  split
  · exact Nat.ne_of_gt (Nat.two_pow_pos w)
  · assumption
theorem serL_ser (l : List Nat) : 0 ∉ serL l := fun h => by
  obtain ⟨i, hi, e⟩ := List.getElem_of_mem h
  have hi2 : i < l.length := by simpa [serL] using hi
  apply serL_no i hi2
  rw [List.getD_eq_getElem?_getD, List.getElem?_eq_getElem hi, e]
  rfl
theorem serL_trans {n : Nat} {l : List Nat} (hl : l.length = n) (ht : PTrans l) (he : PEucl l) : PTrans (serL l) := fun w v u h1 h2 => by
  rw [serL_bit hl] at h1 h2 ⊢
  rcases h1 with h1 | ⟨h1, h3, rfl⟩
  · have hv := bit_ne (he _ _ _ h1 h1)
    rcases h2 with h2 | ⟨_, h4, _⟩
    · exact .inl (ht _ _ _ h1 h2)
    · exact absurd h4 hv
  · exact h2
theorem serL_eucl {n : Nat} {l : List Nat} (hl : l.length = n) (he : PEucl l) : PEucl (serL l) := fun w u v h1 h2 => by
  rw [serL_bit hl] at h1 h2 ⊢
  rcases h1 with h1 | ⟨h1, h3, rfl⟩
  · rcases h2 with h2 | ⟨_, h4, _⟩
    · exact .inl (he _ _ _ h1 h2)
    · exact absurd h4 (bit_ne h1)
  · exact h2
theorem serL_fix {l : List Nat} (h : 0 ∉ l) : serL l = l := by
  apply List.ext_getElem (by simp [serL])
  intro i h1 h2
  have e : l.getD i 0 = l[i] := by rw [List.getD_eq_getElem?_getD, List.getElem?_eq_getElem h2]; rfl
  have hne : l[i] ≠ 0 := fun e0 => h (by rw [← e0]; exact List.getElem_mem h2)
  have h3 := serL_get l i
  rw [if_pos h2, e, if_neg hne, List.getD_eq_getElem?_getD, List.getElem?_eq_getElem h1] at h3
  exact h3
theorem closR_has {n : Nat} {g : Int} {r C : List Nat} (h : ClosR n g r C) : ∀ p ∈ proL g, HasP n p C := by
  obtain ⟨D, hD, rfl⟩ := h
  have hc := hD.has
  have hl := hD.sh.1
  rcases pro_cases g with k | k | k | k | k | k | k | k <;> rw [k.2.1] at hc ⊢ <;> intro p hp <;> simp only [List.mem_cons, List.not_mem_nil, or_false] at hp
  · subst hp
    rw [hasP1]
    exact serL_ser D
  · subst hp
    rw [hasP2]
    exact hc.1 (by decide)
  · subst hp
    rw [hasP4]
    exact hc.2.1 (by decide)
  · rcases hp with rfl | rfl
    · rw [hasP2]; exact hc.1 (by decide)
    · rw [hasP4]; exact hc.2.1 (by decide)
  · rcases hp with rfl | rfl | rfl
    · rw [hasP1]; exact serL_ser D
    · rw [hasP4]; exact serL_trans hl (hc.2.1 (by decide)) (hc.2.2 (by decide))
    · rw [hasP5]; exact serL_eucl hl (hc.2.2 (by decide))
  · rcases hp with rfl | rfl | rfl
    · rw [hasP2]; exact hc.1 (by decide)
    · rw [hasP4]; exact hc.2.1 (by decide)
    · rw [hasP5]; exact hc.2.2 (by decide)
theorem cloP_of {n : Nat} {g : Int} {s : List Nat} (h : ∀ p ∈ proL g, HasP n p s) : CloP n (proL g) s :=
  ⟨fun h2 => (hasP2 n s).1 (h 2 h2), fun h4 => (hasP4 n s).1 (h 4 h4), fun h5 => (hasP5 n s).1 (h 5 h5)⟩
theorem closR_fixed {n : Nat} {g : Int} {r : List Nat} (hr : Sh n r) (h : ∀ p ∈ proL g, HasP n p r) : ClosR n g r r := by
  refine ⟨r, ⟨hr, Le.refl r, cloP_of h, fun s _ _ hle => hle⟩, ?_⟩
  unfold serIf
  split
  · rename_i h1
    exact (serL_fix ((hasP1 n r).1 (h 1 h1))).symm
  · rfl
theorem closR_again {n : Nat} {g : Int} {r C : List Nat} (h : ClosR n g r C) : ClosR n g C C := closR_fixed h.sh (closR_has h)
/-- a closed model -/
theorem ClosM.ok {m c : Mo} {g : Int} (hg : ckE m g = 0) (h : ClosM m g c) : OkM m.n.toNat c ∧ ckE c g = 0 ∧ proE g = 0 := by
  have hm : chkM m = 0 ∧ proE g = 0 := by
    unfold ckE at hg
    by_cases k : chkM m = 0
    · rw [if_pos k] at hg; exact ⟨k, hg⟩
    · rw [if_neg k] at hg; exact absurd hg k
  have hok := chkM_ok hm.1
  unfold ClosM at h
  rw [if_pos hg] at h
  obtain ⟨h1, h2, h3, h4⟩ := h
  have hrel : ∀ C ∈ c.rel, ∃ r, ClosR m.n.toNat g r C := fun C hC => by
    obtain ⟨j, hj, rfl⟩ := List.getElem_of_mem hC
    have h5 := h4 j (by omega)
    rw [show c.rel.getD j [] = c.rel[j] by rw [List.getD_eq_getElem?_getD, List.getElem?_eq_getElem hj]; rfl] at h5
    exact ⟨_, h5⟩
  have hc : OkM m.n.toNat c := ⟨by rw [h1]; exact hok.num, hok.pos, hok.le, by rw [h3]; exact hok.agents, by rw [h2]; exact hok.facts, fun C hC => by obtain ⟨r, hr⟩ := hrel C hC; exact hr.sh.1, by rw [h2]; exact hok.val, fun C hC x hx => by obtain ⟨r, hr⟩ := hrel C hC; exact hr.sh.2 x hx⟩
  refine ⟨hc, ?_, hm.2⟩
  unfold ckE
  rw [if_pos hc.chk]
  exact hm.2
theorem ClosM.rel {m c : Mo} {g : Int} (hg : ckE m g = 0) (h : ClosM m g c) : c.n = m.n ∧ c.val = m.val ∧ c.rel.length = m.rel.length ∧ ∀ j, j < m.rel.length → ClosR m.n.toNat g (m.rel.getD j []) (c.rel.getD j []) := by
  unfold ClosM at h
  rw [if_pos hg] at h
  exact h
/-- closing again changes nothing -/
theorem ClosM.again {m c d : Mo} {g : Int} (hg : ckE m g = 0) (h : ClosM m g c) (k : ClosM c g d) : c = d := by
  obtain ⟨h1, h2, h3, h4⟩ := h.rel hg
  obtain ⟨k1, k2, k3, k4⟩ := k.rel (h.ok hg).2.1
  have e : c.rel = d.rel := by
    apply List.ext_getElem k3.symm
    intro j j1 j2
    have a1 := k4 j j1
    rw [h1] at a1
    have a2 := closR_again (h4 j (by omega))
    have := a2.unique a1
    rwa [List.getD_eq_getElem?_getD, List.getD_eq_getElem?_getD, List.getElem?_eq_getElem j1, List.getElem?_eq_getElem j2] at this
  obtain ⟨n, v, r⟩ := c
  obtain ⟨n', v', r'⟩ := d
  dsimp only at k1 k2 e
  rw [k1, k2, e]
/-- closing changes no model of the logic -/
theorem ClosM.same {m c : Mo} {g : Int} (hg : ckE m g = 0) (h : ClosM m g c) (k : InG m g) : c = m := by
  obtain ⟨h1, h2, h3, h4⟩ := h.rel hg
  have hm : chkM m = 0 := by
    unfold ckE at hg
    by_cases k : chkM m = 0
    · exact k
    · rw [if_neg k] at hg; exact absurd hg k
  have hok := chkM_ok hm
  have e : c.rel = m.rel := by
    apply List.ext_getElem h3
    intro j j1 j2
    have a1 := h4 j j2
    have hmem : m.rel.getD j [] ∈ m.rel := getD_mem' j2
    have hl : (m.rel.getD j []).length = m.n.toNat := hok.len _ hmem
    have a2 : ClosR m.n.toNat g (m.rel.getD j []) (m.rel.getD j []) := closR_fixed ⟨hl, hok.rel _ hmem⟩ (fun p hp => by have h9 := (k.2 _ hmem p hp).2; rwa [hl] at h9)
    have := a1.unique a2
    rwa [List.getD_eq_getElem?_getD, List.getD_eq_getElem?_getD, List.getElem?_eq_getElem j1, List.getElem?_eq_getElem j2] at this
  obtain ⟨n, v, r⟩ := c
  obtain ⟨n', v', r'⟩ := m
  dsimp only at h1 h2 e
  rw [h1, h2, e]
end Go.Proofs.YtjpmhbnikoggaaaGreatDoor
