/- Layer 6: texts joined: Fr1 Fr2 Fr3 Fr4 Frh Fr5 Fr6. -/
import Derived.Test.YtjpmhbnikoggaaaGreatDoorNIa
import Derived.Test.YtjpmhbnikoggaaaGreatDoorNIe
import Derived.Test.YtjpmhbnikoggaaaGreatDoorNIf
import Derived.Test.YtjpmhbnikoggaaaGreatDoorNIg
/- Layer 15: the properties of logics; what the closures of the program and of the reference come to. -/
namespace Go.Proofs.Ws
/-- the properties of a logic, and the error -/
def proL (g : Int) : List Int := if g = 1 then [1] else if g = 2 then [2] else if g = 3 then [4] else if g = 4 then [2, 4] else if g = 5 then [1, 4, 5] else if g = 6 then [2, 4, 5] else []
def proE (g : Int) : Int := if 0 ≤ g ∧ g ≤ 6 then 0 else 1
theorem pro_cases (g : Int) : (g = 0 ∧ proL g = [] ∧ proE g = 0) ∨ (g = 1 ∧ proL g = [1] ∧ proE g = 0) ∨ (g = 2 ∧ proL g = [2] ∧ proE g = 0) ∨ (g = 3 ∧ proL g = [4] ∧ proE g = 0) ∨ (g = 4 ∧ proL g = [2, 4] ∧ proE g = 0) ∨ (g = 5 ∧ proL g = [1, 4, 5] ∧ proE g = 0) ∨ (g = 6 ∧ proL g = [2, 4, 5] ∧ proE g = 0) ∨ ((g < 0 ∨ 6 < g) ∧ proL g = [] ∧ proE g = 1) := by
  by_cases h : 0 ≤ g ∧ g ≤ 6
  · have hc : g = 0 ∨ g = 1 ∨ g = 2 ∨ g = 3 ∨ g = 4 ∨ g = 5 ∨ g = 6 := by omega
    rcases hc with rfl | rfl | rfl | rfl | rfl | rfl | rfl <;> simp [proL, proE]
  · have h1 : proE g = 1 := by unfold proE; rw [if_neg h]
    have h2 : proL g = [] := by unfold proL; rw [if_neg (by omega), if_neg (by omega), if_neg (by omega), if_neg (by omega), if_neg (by omega), if_neg (by omega)]
    exact .inr (.inr (.inr (.inr (.inr (.inr (.inr ⟨by omega, h2, h1⟩))))))
/-- the properties of a list that can be closed to -/
def CloP (n : Nat) (L : List Int) (l : List Nat) : Prop := (2 ∈ L → PRefl n l) ∧ (4 ∈ L → PTrans l) ∧ (5 ∈ L → PEucl l)
/-- one closure after the other -/
def CloStep (n : Nat) (p : Int) (l C : List Nat) : Prop := (p = 2 ∧ IsClo n (PRefl n) l C) ∨ (p = 4 ∧ IsClo n PTrans l C) ∨ (p = 5 ∧ IsClo n PEucl l C) ∨ (p ≠ 2 ∧ p ≠ 4 ∧ p ≠ 5 ∧ C = l)
def CloSteps (n : Nat) : List Int → List Nat → List Nat → Prop
  | [], l, C => C = l
  | p :: L, l, C => ∃ D, CloStep n p l D ∧ CloSteps n L D C
theorem CloStep.facts {n : Nat} {p : Int} {l C : List Nat} (h : CloStep n p l C) (hl : Sh n l) : Sh n C ∧ Le l C ∧ (∀ L s, p ∈ L → Sh n s → CloP n L s → Le l s → Le C s) ∧ (C = l → CloP n [p] l) := by
  rcases h with ⟨rfl, h⟩ | ⟨rfl, h⟩ | ⟨rfl, h⟩ | ⟨h2, h4, h5, rfl⟩
  · exact ⟨h.sh, h.up, fun L s hp hs hc hle => h.least s hs (hc.1 hp) hle, fun e => ⟨fun _ => e ▸ h.has, fun k => absurd k (by decide), fun k => absurd k (by decide)⟩⟩
  · exact ⟨h.sh, h.up, fun L s hp hs hc hle => h.least s hs (hc.2.1 hp) hle, fun e => ⟨fun k => absurd k (by decide), fun _ => e ▸ h.has, fun k => absurd k (by decide)⟩⟩
  · exact ⟨h.sh, h.up, fun L s hp hs hc hle => h.least s hs (hc.2.2 hp) hle, fun e => ⟨fun k => absurd k (by decide), fun k => absurd k (by decide), fun _ => e ▸ h.has⟩⟩
  · exact ⟨hl, Le.refl _, fun _ _ _ _ _ hle => hle, fun _ => ⟨fun k => by simp at k; omega, fun k => by simp at k; omega, fun k => by simp at k; omega⟩⟩
theorem CloSteps.facts {n : Nat} : ∀ {L : List Int} {l C : List Nat}, CloSteps n L l C → Sh n l → Sh n C ∧ Le l C ∧ (∀ M s, (∀ p ∈ L, p ∈ M) → Sh n s → CloP n M s → Le l s → Le C s) ∧ (C = l → CloP n L l)
  | [], l, C, h, hl => by
    have h : C = l := h
    subst h
    exact ⟨hl, Le.refl _, fun _ _ _ _ _ hle => hle, fun _ => ⟨fun k => absurd k (by simp), fun k => absurd k (by simp), fun k => absurd k (by simp)⟩⟩
  | p :: L, l, C, ⟨D, h1, h2⟩, hl => by
    obtain ⟨a1, a2, a3, a4⟩ := h1.facts hl
    obtain ⟨b1, b2, b3, b4⟩ := CloSteps.facts h2 a1
    refine ⟨b1, a2.trans b2, fun M s hp hs hc hle => b3 M s (fun q hq => hp q (List.mem_cons_of_mem _ hq)) hs hc (a3 M s (hp p List.mem_cons_self) hs hc hle), fun e => ?_⟩
    subst e
    have hD : D = C := Le.antisymm a1 hl b2 a2
    have c1 := a4 hD
    subst hD
    have c2 := b4 rfl
    refine ⟨fun k => ?_, fun k => ?_, fun k => ?_⟩
    · rcases List.mem_cons.1 k with e | e
      · exact c1.1 (by rw [e]; exact List.mem_singleton.2 rfl)
      · exact c2.1 e
    · rcases List.mem_cons.1 k with e | e
      · exact c1.2.1 (by rw [e]; exact List.mem_singleton.2 rfl)
      · exact c2.2.1 e
    · rcases List.mem_cons.1 k with e | e
      · exact c1.2.2 (by rw [e]; exact List.mem_singleton.2 rfl)
      · exact c2.2.2 e
/-- what the program's loop keeps: the next round starts here -/
structure CloR (n : Nat) (L : List Int) (r c : List Nat) : Prop where
  sh : Sh n c
  up : Le r c
  least : ∀ s, Sh n s → CloP n L s → Le r s → Le c s
theorem CloR.start {n : Nat} {L : List Int} {r : List Nat} (h : Sh n r) : CloR n L r r := ⟨h, Le.refl _, fun _ _ _ h => h⟩
theorem CloR.next {n : Nat} {L : List Int} {r c d : List Nat} (h : CloR n L r c) (k : CloSteps n L c d) : CloR n L r d := by
  obtain ⟨a1, a2, a3, _⟩ := k.facts h.sh
  exact ⟨a1, h.up.trans a2, fun s hs hc hle => a3 L s (fun _ hp => hp) hs hc (h.least s hs hc hle)⟩
theorem CloR.fin {n : Nat} {L : List Int} {r c : List Nat} (h : CloR n L r c) (k : CloSteps n L c c) : IsClo n (CloP n L) r c :=
  ⟨h.sh, h.up, (k.facts h.sh).2.2.2 rfl, h.least⟩
/-- a relation told by its pairs -/
def relOf (n : Nat) (p : Nat → Nat → Bool) : List Nat := (List.range n).map (fun w => bitsN (p w) n)
theorem relOf_sh (n : Nat) (p : Nat → Nat → Bool) : Sh n (relOf n p) := ⟨by simp [relOf], fun x hx => by
  obtain ⟨w, _, rfl⟩ := List.mem_map.1 hx
  exact bitsN_lt _ _⟩
theorem relOf_bit (n : Nat) (p : Nat → Nat → Bool) (w v : Nat) : bit (relOf n p) w v = true ↔ w < n ∧ v < n ∧ p w v = true := by
  unfold bit relOf
  by_cases h : w < n
  · have e : ((List.range n).map (fun w => bitsN (p w) n)).getD w 0 = bitsN (p w) n := by simp [h]
    rw [e, bitsN_bit, Bool.and_eq_true, decide_eq_true_eq]
    exact ⟨fun k => ⟨h, k.1, k.2⟩, fun k => ⟨k.2.1, k.2.2⟩⟩
  · have e : ((List.range n).map (fun w => bitsN (p w) n)).getD w 0 = 0 := by simp [h]
    rw [e, Nat.zero_testBit]
    exact ⟨fun k => absurd k (by decide), fun k => absurd k.1 h⟩
open Classical in
/-- the transitive closure of a euclidean relation is euclidean -/
theorem trans_eucl {n : Nat} {E T : List Nat} (he : PEucl E) (hE : Sh n E) (h : IsClo n PTrans E T) : PEucl T := by
  -- what a step of E leads to, is left by T to whatever T reaches
  have k1 : ∀ p q, bit T p q = true → ∀ r, bit E p r = true → bit T r q = true := by
    intro p q hpq
    have hs := h.least (relOf n (fun p q => bit T p q && decide (∀ r, bit E p r = true → bit T r q = true))) (relOf_sh _ _) (by
      intro a b c h1 h2
      rw [relOf_bit, Bool.and_eq_true, decide_eq_true_eq] at h1 h2 ⊢
      exact ⟨h1.1, h2.2.1, h.has _ _ _ h1.2.2.1 h2.2.2.1, fun r hr => h.has _ _ _ (h1.2.2.2 r hr) h2.2.2.1⟩) (by
      intro a b hab
      rw [relOf_bit, Bool.and_eq_true, decide_eq_true_eq]
      have := bit_in hE hab
      exact ⟨this.1, this.2, h.up _ _ hab, fun r hr => h.up _ _ (he a r b hr hab)⟩) p q hpq
    rw [relOf_bit, Bool.and_eq_true, decide_eq_true_eq] at hs
    exact hs.2.2.2
  have k2 : ∀ p q, bit T p q = true → ∀ r, bit T p r = true → bit T q r = true := by
    intro p q hpq
    have hs := h.least (relOf n (fun p q => bit T p q && decide (∀ r, bit T p r = true → bit T q r = true))) (relOf_sh _ _) (by
      intro a b c h1 h2
      rw [relOf_bit, Bool.and_eq_true, decide_eq_true_eq] at h1 h2 ⊢
      exact ⟨h1.1, h2.2.1, h.has _ _ _ h1.2.2.1 h2.2.2.1, fun r hr => h2.2.2.2 r (h1.2.2.2 r hr)⟩) (by
      intro a b hab
      rw [relOf_bit, Bool.and_eq_true, decide_eq_true_eq]
      have := bit_in hE hab
      exact ⟨this.1, this.2, h.up _ _ hab, fun r hr => k1 a r hr b hab⟩) p q hpq
    rw [relOf_bit, Bool.and_eq_true, decide_eq_true_eq] at hs
    exact hs.2.2.2
  exact fun w u v h1 h2 => k2 w u h1 v h2
/-- a round of the reference -/
def RndR (n : Nat) (L : List Int) (l l' : List Nat) : Prop := ∃ C, (if 4 ∈ L then IsClo n PTrans l C else C = l) ∧ (if 5 ∈ L then IsClo n PEucl C l' else l' = C)
/-- what the reference's rounds keep -/
structure RefR (n : Nat) (L : List Int) (r : List Nat) (k : Nat) (l : List Nat) : Prop where
  base : CloR n L r l
  refl : 2 ∈ L → PRefl n l
  one : 1 ≤ k → 5 ∉ L → 4 ∈ L → PTrans l
  eucl : 1 ≤ k → 5 ∈ L → PEucl l
  two : 2 ≤ k → 5 ∈ L → PTrans l
theorem PRefl.up {n : Nat} {l s : List Nat} (h : PRefl n l) (k : Le l s) : PRefl n s := fun w hw => k w w (h w hw)
theorem RefR.next {n : Nat} {L : List Int} {r l l' : List Nat} {k : Nat} (h5 : 5 ∈ L → 4 ∈ L) (h : RefR n L r k l) (hr : RndR n L l l') : RefR n L r (k + 1) l' := by
  obtain ⟨C, h1, h2⟩ := hr
  by_cases e4 : (4 : Int) ∈ L
  · rw [if_pos e4] at h1
    by_cases e5 : (5 : Int) ∈ L
    · rw [if_pos e5] at h2
      refine ⟨⟨h2.sh, h.base.up.trans (h1.up.trans h2.up), fun s hs hc hle => h2.least s hs (hc.2.2 e5) (h1.least s hs (hc.2.1 e4) (h.base.least s hs hc hle))⟩, fun e2 => ((h.refl e2).up h1.up).up h2.up, fun _ k5 => absurd e5 k5, fun _ _ => h2.has, fun hk _ => ?_⟩
      have hC := trans_eucl (h.eucl (by omega) e5) h.base.sh h1
      rw [(h2.fixed h1.sh).2 hC]
      exact h1.has
    · rw [if_neg e5] at h2
      subst h2
      exact ⟨⟨h1.sh, h.base.up.trans h1.up, fun s hs hc hle => h1.least s hs (hc.2.1 e4) (h.base.least s hs hc hle)⟩, fun e2 => (h.refl e2).up h1.up, fun _ _ _ => h1.has, fun _ k5 => absurd k5 e5, fun _ k5 => absurd k5 e5⟩
  · rw [if_neg e4] at h1
    subst h1
    have e5 : (5 : Int) ∉ L := fun k => e4 (h5 k)
    rw [if_neg e5] at h2
    subst h2
    exact ⟨h.base, h.refl, fun _ _ k4 => absurd k4 e4, fun _ k5 => absurd k5 e5, fun _ k5 => absurd k5 e5⟩
theorem RefR.fin {n : Nat} {L : List Int} {r l : List Nat} {k : Nat} (h : RefR n L r k l) (hk : 2 ≤ k) : IsClo n (CloP n L) r l :=
  ⟨h.base.sh, h.base.up, ⟨h.refl, fun e4 => by
    by_cases e5 : (5 : Int) ∈ L
    · exact h.two hk e5
    · exact h.one (by omega) e5 e4, fun e5 => h.eucl (by omega) e5⟩, h.base.least⟩
/-- the start of the reference -/
theorem RefR.start {n : Nat} {L : List Int} {r c : List Nat} (hr : Sh n r) (h : if 2 ∈ L then IsClo n (PRefl n) r c else c = r) : RefR n L r 0 c := by
  by_cases e2 : (2 : Int) ∈ L
  · rw [if_pos e2] at h
    exact ⟨⟨h.sh, h.up, fun s hs hc hle => h.least s hs (hc.1 e2) hle⟩, fun _ => h.has, fun k => absurd k (by omega), fun k => absurd k (by omega), fun k => absurd k (by omega)⟩
  · rw [if_neg e2] at h
    subst h
    exact ⟨CloR.start hr, fun k => absurd k e2, fun k => absurd k (by omega), fun k => absurd k (by omega), fun k => absurd k (by omega)⟩
/-- worlds without successors lead to themselves -/
def serL (l : List Nat) : List Nat := (List.range l.length).map (fun w => if l.getD w 0 = 0 then 2 ^ w else l.getD w 0)
def serIf (L : List Int) (l : List Nat) : List Nat := if 1 ∈ L then serL l else l
theorem serL_sh {n : Nat} {l : List Nat} (h : Sh n l) : Sh n (serL l) := by
  refine ⟨by simp [serL, h.1], fun x hx => ?_⟩
  obtain ⟨w, hw, rfl⟩ := List.mem_map.1 hx
  have hw := List.mem_range.1 hw
  split
  · exact Nat.pow_lt_pow_right (by decide) (by have := h.1; omega)
  · have e : l.getD w 0 = l[w] := by simp [hw]
    rw [e]
    exact h.2 _ (List.getElem_mem hw)
/-- what Close makes of a relation -/
def ClosR (n : Nat) (g : Int) (r c : List Nat) : Prop := ∃ C, IsClo n (CloP n (proL g)) r C ∧ c = serIf (proL g) C
theorem ClosR.unique {n : Nat} {g : Int} {r c d : List Nat} (h : ClosR n g r c) (k : ClosR n g r d) : c = d := by
  obtain ⟨C, h1, rfl⟩ := h
  obtain ⟨D, h2, rfl⟩ := k
  rw [h1.unique h2]
theorem ClosR.sh {n : Nat} {g : Int} {r c : List Nat} (h : ClosR n g r c) : Sh n c := by
  obtain ⟨C, h1, rfl⟩ := h
  unfold serIf
  split
  · exact serL_sh h1.sh
  · exact h1.sh
end Go.Proofs.Ws
/- Layer 15: Properties on both sides. -/
namespace Go.Proofs.YtjpmhbnikoggaaaGreatDoor
open Go.RowKit Go.Proofs.Ws
set_option maxRecDepth 100000
/-- a list of numbers in a block of its own -/
theorem alloc_ints (w : World) (l : List Int) : Reads (w.alloc (.cells (ints l).toArray 3)) (w.alloc (.cells (ints l).toArray 3)).heap.size 1 (some ⟨w.heap.size, 0, none⟩) l.length (ints l) := by
  refine ⟨by rw [ints_length]; omega, fun _ => ⟨_, rfl, by simp, fun j u hu => ?_⟩⟩
  rw [addr0, Lib.cell_of_heap (heap_alloc_new w _), List.getElem?_toArray]
  exact hu
/-- what Properties hands back -/
def GivesP (g : Int) (w : World) (e : Ending) (w' : World) : Prop :=
  ∃ A c, e = .returned (.tuple #[.slice A (proL g).length c, .int .i64 (proE g)]) ∧ Reads w' w'.heap.size 1 A (proL g).length (ints (proL g)) ∧ Below w.heap.size w w'
theorem pPro_any (g : Int) (w : World) : Calls Tryz.prog 9 #[.int .i64 g] w (GivesP g w) := by
  unfold GivesP
  rcases pro_cases g with ⟨rfl, h1, h2⟩ | ⟨rfl, h1, h2⟩ | ⟨rfl, h1, h2⟩ | ⟨rfl, h1, h2⟩ | ⟨rfl, h1, h2⟩ | ⟨rfl, h1, h2⟩ | ⟨rfl, h1, h2⟩ | ⟨hg, h1, h2⟩
  · rw [h1, h2]
    clear h1 h2
    go_enter Tryz.func9, Tryz.ntmps9
    go_wp2
    go_ret2
    exact ⟨none, 0, rfl, Reads.none_, Below.refl _ _⟩
  · rw [h1, h2]
    clear h1 h2
    go_enter Tryz.func9, Tryz.ntmps9
    go_wp2
    go_ret2
    exact ⟨_, _, rfl, alloc_ints w [1], (Below.refl _ w).alloc (Nat.le_refl _) _⟩
  · rw [h1, h2]
    clear h1 h2
    go_enter Tryz.func9, Tryz.ntmps9
    go_wp2
    go_ret2
    exact ⟨_, _, rfl, alloc_ints w [2], (Below.refl _ w).alloc (Nat.le_refl _) _⟩
  · rw [h1, h2]
    clear h1 h2
    go_enter Tryz.func9, Tryz.ntmps9
    go_wp2
    go_ret2
    exact ⟨_, _, rfl, alloc_ints w [4], (Below.refl _ w).alloc (Nat.le_refl _) _⟩
  · rw [h1, h2]
    clear h1 h2
    go_enter Tryz.func9, Tryz.ntmps9
    go_wp2
    go_ret2
    exact ⟨_, _, rfl, alloc_ints w [2, 4], (Below.refl _ w).alloc (Nat.le_refl _) _⟩
  · rw [h1, h2]
    clear h1 h2
    go_enter Tryz.func9, Tryz.ntmps9
    go_wp2
    go_ret2
    exact ⟨_, _, rfl, alloc_ints w [1, 4, 5], (Below.refl _ w).alloc (Nat.le_refl _) _⟩
  · rw [h1, h2]
    clear h1 h2
    go_enter Tryz.func9, Tryz.ntmps9
    go_wp2
    go_ret2
    exact ⟨_, _, rfl, alloc_ints w [2, 4, 5], (Below.refl _ w).alloc (Nat.le_refl _) _⟩
  · rw [h1, h2]
    clear h1 h2
    have d0 : (g == 0) = false := by rw [beq_eq_false_iff_ne]; omega
    have d1 : (g == 1) = false := by rw [beq_eq_false_iff_ne]; omega
    have d2 : (g == 2) = false := by rw [beq_eq_false_iff_ne]; omega
    have d3 : (g == 3) = false := by rw [beq_eq_false_iff_ne]; omega
    have d4 : (g == 4) = false := by rw [beq_eq_false_iff_ne]; omega
    have d5 : (g == 5) = false := by rw [beq_eq_false_iff_ne]; omega
    have d6 : (g == 6) = false := by rw [beq_eq_false_iff_ne]; omega
    clear hg
    go_enter Tryz.func9, Tryz.ntmps9
    go_wp2
    go_ret2
    exact ⟨none, 0, rfl, Reads.none_, Below.refl _ _⟩
end Go.Proofs.YtjpmhbnikoggaaaGreatDoor
/- Layer 15: hasAll: a relation has all properties of a list. -/
namespace Go.Proofs.YtjpmhbnikoggaaaGreatDoor
open Go.RowKit Go.Proofs.Ws
set_option maxRecDepth 100000
/-- whether a proposition holds -/
noncomputable def qB (Q : Prop) : Bool := @decide Q (Classical.propDecidable Q)
theorem qB_iff (Q : Prop) : qB Q = true ↔ Q := by unfold qB; simp
theorem qB_of {Q : Prop} {b : Bool} (h : b = true ↔ Q) : b = qB Q := by
  rw [Bool.eq_iff_iff, qB_iff]; exact h
/-- a relation in memory has a property -/
def HasQ (n : Nat) (l : List Nat) (p : Int) : Prop := relErr n l = 0 ∧ HasP n p l
theorem hasQ_any (l : List Nat) (A : Option Addr) (n c : Nat) (p : Int) (w : World) (hR : Reads w w.heap.size 1 A n (us l)) (hw : Words l) (hm : n ≤ maxLen) (hT : Tab w) :
    Calls Tryz.prog 81 #[.slice A n c, .int .i64 p] w fun e w' => e = .returned (.bool (qB (HasQ n l p))) ∧ Below w.heap.size w w' :=
  (has_any l A n c p w hR hw hm hT).mono fun e w' h => by
    obtain ⟨b, he, hb, hw⟩ := h
    exact ⟨by rw [he, qB_of hb]; rfl, hw⟩
section
variable (l : List Nat) (A : Option Addr) (n c : Nat) (w : World) (hR : Reads w w.heap.size 1 A n (us l)) (hw : Words l) (hm : n ≤ maxLen) (hT : Tab w)
include hR hw hm hT
end
end Go.Proofs.YtjpmhbnikoggaaaGreatDoor
/- Layer 15: Has, check and In by the program. -/
namespace Go.Proofs.YtjpmhbnikoggaaaGreatDoor
open Go.RowKit Go.Proofs.Ws
set_option maxRecDepth 100000
theorem qB_false {Q : Prop} (h : ¬ Q) : qB Q = false := by
  cases e : qB Q with
  | false => rfl
  | true => exact absurd ((qB_iff Q).1 e) h
theorem proL_len (g : Int) : (proL g).length ≤ 3 := by
  rcases pro_cases g with h | h | h | h | h | h | h | h <;> rw [h.2.1] <;> simp
/-- the error of a model and a logic, and the logic's properties -/
def ckE (m : Mo) (g : Int) : Int := if chkM m = 0 then proE g else chkM m
def ckL (m : Mo) (g : Int) : List Int := if chkM m = 0 then proL g else []
theorem pCk_any (m : Mo) (v : Value) (g : Int) (w : World) (hM : MoR w w.heap.size v m) :
    Calls Tryz.prog 40 #[v, .int .i64 g] w fun e w' => ∃ A c, e = .returned (.tuple #[.slice A (ckL m g).length c, .int .i64 (ckE m g)]) ∧ Reads w' w'.heap.size 1 A (ckL m g).length (ints (ckL m g)) ∧ Below w.heap.size w w' := by
  obtain ⟨A1, c1, A2, c2, rfl, hv, hr⟩ := hM.ex
  have HB := Lib.hid (MBox.made w m.n (.slice A1 m.val.length c1) (.slice A2 m.rel.length c2))
  have HBe : Hid (Below w.heap.size w (w.alloc (.cells #[.int .i64 m.n, .slice A1 m.val.length c1, .slice A2 m.rel.length c2] 25))) := Lib.hid ((Below.refl _ w).alloc (Nat.le_refl _) _)
  have HC := Lib.hid (fun W (hb : Below w.heap.size w W) => pCheck_any m (.agg #[.int .i64 m.n, .slice A1 m.val.length c1, .slice A2 m.rel.length c2]) W (hM.below hb hb.size))
  have HP := Lib.hid (fun W => pPro_any g W)
  clear hM hv hr
  unfold GivesP at HP
  by_cases hz : chkM m = 0
  · have e1 : ckE m g = proE g := by unfold ckE; rw [if_pos hz]
    have e2 : ckL m g = proL g := by unfold ckL; rw [if_pos hz]
    rw [e1, e2]
    rw [hz] at HC
    clear e1 e2 hz
    generalize proE g = r at *
    generalize (proL g).length = k at *
    go_enter Tryz.func40, Tryz.ntmps40
    go_wp2_with fail
    refine (HC.out _ HBe.out).mono ?_
    rintro e w2 ⟨rfl, hb⟩
    have HB2 := Lib.hid (HBe.out.trans (hb.mono HBe.out.size))
    clear hb
    go_wp2_with fail
    refine (HP.out _).mono ?_
    rintro e w3 ⟨D, d, rfl, hr, hb⟩
    have HB3 := Lib.hid (HB2.out.trans (hb.mono HB2.out.size))
    have HR := Lib.hid hr
    clear hb hr
    go_wp2
    go_ret2
    exact ⟨D, d, rfl, HR.out, HB3.out⟩
  · have e1 : ckE m g = chkM m := by unfold ckE; rw [if_neg hz]
    have e2 : ckL m g = [] := by unfold ckL; rw [if_neg hz]
    have hz1 : (chkM m != 0) = true := by rw [bne_iff_ne]; exact hz
    rw [e1, e2]
    clear e1 e2 hz
    generalize chkM m = r at *
    go_enter Tryz.func40, Tryz.ntmps40
    go_wp2_with fail
    refine (HC.out _ HBe.out).mono ?_
    rintro e w2 ⟨rfl, hb⟩
    have HB2 := Lib.hid (HBe.out.trans (hb.mono HBe.out.size))
    clear hb
    go_wp2
    go_ret2
    exact ⟨none, 0, rfl, Reads.none_, HB2.out⟩
/-- a relation has all properties of a list -/
def AllP (P : List Int) (l : List Nat) : Prop := ∀ p ∈ P, HasQ l.length l p
/-- a model is one of a logic -/
def InG (m : Mo) (g : Int) : Prop := ckE m g = 0 ∧ ∀ l ∈ m.rel, AllP (proL g) l
end Go.Proofs.YtjpmhbnikoggaaaGreatDoor
/- Layer 15: closures whose result lies in a block of its own. -/
namespace Go.Proofs.YtjpmhbnikoggaaaGreatDoor
open Go.RowKit Go.Proofs.Ws
set_option maxRecDepth 100000
theorem sh_err {n : Nat} {l : List Nat} (h : Sh n l) (hn : n ≤ 64) : relErr l.length l = 0 := relErr_ok (by rw [h.1]; exact hn) (by rw [h.1]; exact h.2)
/-- words in a block of the call's own, padding behind them -/
def OwnL (B : Nat) (W : World) (A : Option Addr) (l : List Nat) : Prop := ∃ g, A = some ⟨g, 0, none⟩ ∧ B ≤ g ∧ HoldsP W g l
theorem OwnL.reads {B : Nat} {W : World} {A : Option Addr} {l : List Nat} {n : Nat} (h : OwnL B W A l) (hl : l.length = n) : Reads W W.heap.size 1 A n (us l) := by
  obtain ⟨g, rfl, _, hH⟩ := h
  have := hH.reads
  rwa [hl] at this
theorem OwnL.below {B : Nat} {W W' : World} {A : Option Addr} {l : List Nat} (h : OwnL B W A l) (hb : Below W.heap.size W W') : OwnL B W' A l := by
  obtain ⟨g, hA, hg, hH⟩ := h
  exact ⟨g, hA, hg, hH.below hb hH.lt⟩
theorem OwnL.mono {B B' : Nat} {W : World} {A : Option Addr} {l : List Nat} (h : OwnL B W A l) (hB : B' ≤ B) : OwnL B' W A l := by
  obtain ⟨g, hA, hg, hH⟩ := h
  exact ⟨g, hA, by omega, hH⟩
theorem OwnL.drewN {B : Nat} {W : World} {A : Option Addr} {l : List Nat} (h : OwnL B W A l) (q : Nat) : OwnL B (W.drewN q) A l := by
  obtain ⟨g, hA, hg, hH⟩ := h
  exact ⟨g, hA, hg, holdsP_drewN hH q⟩
set_option maxRecDepth 100000 in
theorem extendReflexiveH_any (l : List Nat) (A : Option Addr) (n c : Nat) (w : World) (hR : Reads w w.heap.size 1 A n (us l)) (hS : Sh n l) (hn : n ≤ 64) (hT : Tab w) (h0 : 0 < n) :
    Calls Tryz.prog 173 #[.slice A n c, .func (.func 133) #[] #[]] w fun e w' => ∃ A' c', e = .returned (.slice A' n c') ∧ OwnL w.heap.size w' A' (run reflL l n) ∧ Below w.heap.size w w' := by
  have HC := Lib.hid (clone_any l A n c w hR hn)
  have HS := Lib.hid hS
  have HT := Lib.hid hT
  clear hR hS hT
  go_enter Tryz.func173, Tryz.ntmps173
  go_wp2_with fail
  refine (HC.out).mono ?_
  rintro e w1 ⟨A1, c1, rfl, hg, hb⟩
  have HG := Lib.hid hg
  have HB := Lib.hid hb
  clear hg hb
  by_cases hn0 : n = 0
  · omega
  · obtain ⟨g, rfl, hg1, hH1⟩ := HG.out (by omega)
    have HG1 := Lib.hid hg1
    have HH1 := Lib.hid hH1
    clear hg1 hH1 HG
    have hg0 : 0 < g := by have := HG1.out; have := HT.out.2; omega
    have HG0 := Lib.hid hg0
    clear hg0
    have HSTEPS := Lib.hid (reflL_steps n)
    go_wp2
    go_loopw [11] (fun i wr => ∃ k : Nat, k ≤ n ∧ i = .int .i64 k ∧ Hid (HoldsP wr g (run reflL l k) ∧ BelowBut w1.heap.size g w1 wr)) (fun i _ => n - (intOf i).toNat)
    case atStart => exact ⟨0, Nat.zero_le _, rfl, Lib.hid ⟨HH1.out, BelowBut.refl _ _ _⟩⟩
    case round =>
      obtain ⟨k, hk, rfl, HI⟩ := hrel
      by_cases hlt : k < n
      · have HW : Hid (Calls Tryz.prog 133 #[.slice (some ⟨g, 0, none⟩) n c1, .int .i64 k] wr fun e w' => e = .returned (.tuple #[]) ∧ HoldsP w' g (run reflL l (k + 1)) ∧ BelowBut w1.heap.size g w1 w') := Lib.hid (by
          have hH := HI.out.1
          have hB := HI.out.2
          have hS := (HSTEPS.out.run_sh HS.out k (by omega)).1
          have hT : Tab wr := HT.out.below (HB.out.trans ((hB.mono HB.out.size).below HG1.out))
          have hg0 := HG0.out
          have hk := hlt
          generalize hL : run reflL l k = L at hH hS
          refine (stepReflexive_any L g n c1 k wr hH (sh_words hn hS) hS.1 hk hn).mono ?_
          rintro e w' ⟨he, h1, h2⟩
          refine ⟨he, ?_, hB.trans (h2.mono hB.size)⟩
          rw [run_succ, hL]
          exact h1)
        clear HI
        go_wp2_with fail
        refine (HW.out).mono ?_
        rintro e w2 ⟨rfl, h1, h2⟩
        have H2 := Lib.hid (And.intro h1 h2)
        clear h1 h2 HW
        go_wp2
        go_roundw
        case rel => exact ⟨k + 1, by omega, by go_num, H2⟩
        case measure => simp [intOf]; omega
      · have hkn : n = k := by omega
        subst hkn
        go_wp2
        go_ret
        exact ⟨_, c1, rfl, ⟨g, rfl, HG1.out, HI.out.1⟩, HB.out.trans ((HI.out.2.mono HB.out.size).below HG1.out)⟩
set_option maxRecDepth 100000 in
set_option maxHeartbeats 4000000 in
theorem closureReflexiveH_any (l : List Nat) (A : Option Addr) (n c : Nat) (w : World) (hR : Reads w w.heap.size 1 A n (us l)) (hS : Sh n l) (hn : n ≤ 64) (hT : Tab w) (h0 : 0 < n) :
    Calls Tryz.prog 204 #[.slice A n c, .func (.func 133) #[] #[]] w fun e w' => ∃ A' c' C, IsClo n (PRefl n) l C ∧ e = .returned (.tuple #[.slice A' n c', .int .i64 0]) ∧ OwnL w.heap.size w' A' C ∧ Below w.heap.size w w' := by
  have HK := Lib.hid (check_any n l A n c _ w hR (sh_words hn hS) (by unfold maxLen; omega))
  have hre : relErr n l = 0 := by have := sh_err hS hn; rwa [hS.1] at this
  rw [hre] at HK
  have HS := Lib.hid hS
  have HT := Lib.hid hT
  have HSTEPS := Lib.hid (reflL_steps n)
  have HC := Lib.hid (clone_any l A n c w hR hn)
  clear hR hS hT hre
  go_enter Tryz.func204, Tryz.ntmps204
  go_wp2_with fail
  refine (HK.out).mono ?_
  rintro e w0 ⟨rfl, rfl⟩
  go_wp2_with fail
  refine (HC.out).mono ?_
  rintro e w1 ⟨A1, c1, rfl, hg, hb⟩
  have HO1 : Hid (OwnL w.heap.size w1 A1 l) := Lib.hid (hg h0)
  have HX := Lib.hid (extendReflexiveH_any l A1 n c1 w1 (HO1.out.reads HS.out.1) HS.out hn (HT.out.below hb) h0)
  have HB := Lib.hid hb
  clear hg hb
  go_wp2_with fail
  refine (HX.out).mono ?_
  rintro e w2 ⟨A2, c2, rfl, hR2, hb2⟩
  have HI0 : Hid (OwnL w.heap.size w2 A1 l ∧ OwnL w.heap.size w2 A2 (run reflL l n) ∧ Mid n (PRefl n) l l ∧ Below w.heap.size w w2) := Lib.hid ⟨HO1.out.below hb2, hR2.mono HB.out.size, Mid.start HS.out, HB.out.trans (hb2.mono HB.out.size)⟩
  clear hR2 hb2
  go_wp2
  go_loopw [7, 8] (fun i j wr => ∃ (x : List Nat) (A1 A2 : Option Addr) (c1 c2 : Nat), i = .slice A1 n c1 ∧ j = .slice A2 n c2 ∧ Hid (OwnL w.heap.size wr A1 x ∧ OwnL w.heap.size wr A2 (run reflL x n) ∧ Mid n (PRefl n) l x ∧ Below w.heap.size w wr)) (fun i _ wr => 64 * n - wt (rdL wr i))
  case atStart => exact ⟨l, A1, A2, c1, c2, rfl, rfl, HI0⟩
  case round =>
    obtain ⟨x, A1, A2, c1, c2, rfl, rfl, HI⟩ := hrel
    have HL2 := Lib.hid ((HI.out.2.2.1.next HSTEPS.out).sh.1)
    have HQ := Lib.hid (equal_any (run reflL x n) x A2 A1 n n c2 c1 wr.heap.size wr (HI.out.2.1.reads HL2.out) (HI.out.1.reads HI.out.2.2.1.sh.1) (by unfold maxLen; omega) (by unfold maxLen; omega))
    by_cases hq : run reflL x n = x
    · rw [decide_eq_true hq] at HQ
      have HF := Lib.hid hq
      clear hq
      go_wp2_with fail
      refine (HQ.out).mono ?_
      rintro e w3 ⟨rfl, q, rfl⟩
      go_wp2
      go_ret2
      exact ⟨A1, c1, x, HI.out.2.2.1.done HSTEPS.out HF.out, rfl, HI.out.1.drewN q, below_drewN HI.out.2.2.2 q⟩
    · rw [decide_eq_false hq] at HQ
      have HM := Lib.hid (HI.out.2.2.1.more HSTEPS.out hn hq)
      clear hq
      go_wp2_with fail
      refine (HQ.out).mono ?_
      rintro e w3 ⟨rfl, q, rfl⟩
      have HX := Lib.hid (extendReflexiveH_any (run reflL x n) A2 n c2 (wr.drewN q) ((HI.out.2.1.drewN q).reads HL2.out) (HI.out.2.2.1.next HSTEPS.out).sh hn (HT.out.below (below_drewN HI.out.2.2.2 q)) h0)
      go_wp2_with fail
      refine (HX.out).mono ?_
      rintro e w4 ⟨A3, c3, rfl, hR3, hb3⟩
      have hb4 : Below (wr.drewN q).heap.size wr w4 := ((below_drewN (Below.refl _ _) q)).trans hb3
      have HR4 : Hid (OwnL w.heap.size w4 A2 (run reflL x n)) := Lib.hid (HI.out.2.1.below hb4)
      have HI2 : Hid (OwnL w.heap.size w4 A2 (run reflL x n) ∧ OwnL w.heap.size w4 A3 (run reflL (run reflL x n) n) ∧ Mid n (PRefl n) l (run reflL x n) ∧ Below w.heap.size w w4) := Lib.hid ⟨HR4.out, hR3.mono HI.out.2.2.2.size, HI.out.2.2.1.next HSTEPS.out, HI.out.2.2.2.trans (hb4.mono HI.out.2.2.2.size)⟩
      clear hR3 hb3 hb4
      go_wp2
      go_roundw
      case rel => exact ⟨run reflL x n, A2, A3, c2, c3, rfl, rfl, HI2⟩
      case measure =>
        rw [rdL_reads (HI.out.1.reads HI.out.2.2.1.sh.1), rdL_reads (HR4.out.reads HL2.out)]
        have := HM.out
        omega
theorem stReflexive_any (l : List Nat) (A : Option Addr) (n c : Nat) (w : World) (hR : Reads w w.heap.size 1 A n (us l)) (hS : Sh n l) (hn : n ≤ 64) (hT : Tab w) (h0 : 0 < n) :
    Calls Tryz.prog 195 #[.slice A n c] w fun e w' => ∃ A' c' C, IsClo n (PRefl n) l C ∧ e = .returned (.tuple #[.slice A' n c', .int .i64 0]) ∧ OwnL w.heap.size w' A' C ∧ Below w.heap.size w w' := by
  have H := Lib.hid (closureReflexiveH_any l A n c w hR hS hn hT h0)
  clear hR hS hT
  go_enter Tryz.func195, Tryz.ntmps195
  go_wp2_with fail
  refine (H.out).mono ?_
  rintro e w1 ⟨A1, c1, C, hC, rfl, hR1, hb1⟩
  have HH := Lib.hid (And.intro hC (And.intro hR1 hb1))
  clear hC hR1 hb1
  go_wp2
  go_ret2
  exact ⟨A1, c1, C, HH.out.1, rfl, HH.out.2.1, HH.out.2.2⟩
set_option maxRecDepth 100000 in
theorem extendTransitiveH_any (l : List Nat) (A : Option Addr) (n c : Nat) (w : World) (hR : Reads w w.heap.size 1 A n (us l)) (hS : Sh n l) (hn : n ≤ 64) (hT : Tab w) (h0 : 0 < n) :
    Calls Tryz.prog 173 #[.slice A n c, .func (.func 135) #[] #[]] w fun e w' => ∃ A' c', e = .returned (.slice A' n c') ∧ OwnL w.heap.size w' A' (run transL l n) ∧ Below w.heap.size w w' := by
  have HC := Lib.hid (clone_any l A n c w hR hn)
  have HS := Lib.hid hS
  have HT := Lib.hid hT
  clear hR hS hT
  go_enter Tryz.func173, Tryz.ntmps173
  go_wp2_with fail
  refine (HC.out).mono ?_
  rintro e w1 ⟨A1, c1, rfl, hg, hb⟩
  have HG := Lib.hid hg
  have HB := Lib.hid hb
  clear hg hb
  by_cases hn0 : n = 0
  · omega
  · obtain ⟨g, rfl, hg1, hH1⟩ := HG.out (by omega)
    have HG1 := Lib.hid hg1
    have HH1 := Lib.hid hH1
    clear hg1 hH1 HG
    have hg0 : 0 < g := by have := HG1.out; have := HT.out.2; omega
    have HG0 := Lib.hid hg0
    clear hg0
    have HSTEPS := Lib.hid (transL_steps n hn)
    go_wp2
    go_loopw [11] (fun i wr => ∃ k : Nat, k ≤ n ∧ i = .int .i64 k ∧ Hid (HoldsP wr g (run transL l k) ∧ BelowBut w1.heap.size g w1 wr)) (fun i _ => n - (intOf i).toNat)
    case atStart => exact ⟨0, Nat.zero_le _, rfl, Lib.hid ⟨HH1.out, BelowBut.refl _ _ _⟩⟩
    case round =>
      obtain ⟨k, hk, rfl, HI⟩ := hrel
      by_cases hlt : k < n
      · have HW : Hid (Calls Tryz.prog 135 #[.slice (some ⟨g, 0, none⟩) n c1, .int .i64 k] wr fun e w' => e = .returned (.tuple #[]) ∧ HoldsP w' g (run transL l (k + 1)) ∧ BelowBut w1.heap.size g w1 w') := Lib.hid (by
          have hH := HI.out.1
          have hB := HI.out.2
          have hS := (HSTEPS.out.run_sh HS.out k (by omega)).1
          have hT : Tab wr := HT.out.below (HB.out.trans ((hB.mono HB.out.size).below HG1.out))
          have hg0 := HG0.out
          have hk := hlt
          generalize hL : run transL l k = L at hH hS
          refine (stepTransitive_any L g n c1 k wr hH (sh_words hn hS) hS.1 hk hn hT).mono ?_
          rintro e w' ⟨he, h1, h2⟩
          refine ⟨he, ?_, hB.trans (h2.mono hB.size)⟩
          rw [run_succ, hL]
          exact h1)
        clear HI
        go_wp2_with fail
        refine (HW.out).mono ?_
        rintro e w2 ⟨rfl, h1, h2⟩
        have H2 := Lib.hid (And.intro h1 h2)
        clear h1 h2 HW
        go_wp2
        go_roundw
        case rel => exact ⟨k + 1, by omega, by go_num, H2⟩
        case measure => simp [intOf]; omega
      · have hkn : n = k := by omega
        subst hkn
        go_wp2
        go_ret
        exact ⟨_, c1, rfl, ⟨g, rfl, HG1.out, HI.out.1⟩, HB.out.trans ((HI.out.2.mono HB.out.size).below HG1.out)⟩
set_option maxRecDepth 100000 in
set_option maxHeartbeats 4000000 in
theorem closureTransitiveH_any (l : List Nat) (A : Option Addr) (n c : Nat) (w : World) (hR : Reads w w.heap.size 1 A n (us l)) (hS : Sh n l) (hn : n ≤ 64) (hT : Tab w) (h0 : 0 < n) :
    Calls Tryz.prog 204 #[.slice A n c, .func (.func 135) #[] #[]] w fun e w' => ∃ A' c' C, IsClo n PTrans l C ∧ e = .returned (.tuple #[.slice A' n c', .int .i64 0]) ∧ OwnL w.heap.size w' A' C ∧ Below w.heap.size w w' := by
  have HK := Lib.hid (check_any n l A n c _ w hR (sh_words hn hS) (by unfold maxLen; omega))
  have hre : relErr n l = 0 := by have := sh_err hS hn; rwa [hS.1] at this
  rw [hre] at HK
  have HS := Lib.hid hS
  have HT := Lib.hid hT
  have HSTEPS := Lib.hid (transL_steps n hn)
  have HC := Lib.hid (clone_any l A n c w hR hn)
  clear hR hS hT hre
  go_enter Tryz.func204, Tryz.ntmps204
  go_wp2_with fail
  refine (HK.out).mono ?_
  rintro e w0 ⟨rfl, rfl⟩
  go_wp2_with fail
  refine (HC.out).mono ?_
  rintro e w1 ⟨A1, c1, rfl, hg, hb⟩
  have HO1 : Hid (OwnL w.heap.size w1 A1 l) := Lib.hid (hg h0)
  have HX := Lib.hid (extendTransitiveH_any l A1 n c1 w1 (HO1.out.reads HS.out.1) HS.out hn (HT.out.below hb) h0)
  have HB := Lib.hid hb
  clear hg hb
  go_wp2_with fail
  refine (HX.out).mono ?_
  rintro e w2 ⟨A2, c2, rfl, hR2, hb2⟩
  have HI0 : Hid (OwnL w.heap.size w2 A1 l ∧ OwnL w.heap.size w2 A2 (run transL l n) ∧ Mid n PTrans l l ∧ Below w.heap.size w w2) := Lib.hid ⟨HO1.out.below hb2, hR2.mono HB.out.size, Mid.start HS.out, HB.out.trans (hb2.mono HB.out.size)⟩
  clear hR2 hb2
  go_wp2
  go_loopw [7, 8] (fun i j wr => ∃ (x : List Nat) (A1 A2 : Option Addr) (c1 c2 : Nat), i = .slice A1 n c1 ∧ j = .slice A2 n c2 ∧ Hid (OwnL w.heap.size wr A1 x ∧ OwnL w.heap.size wr A2 (run transL x n) ∧ Mid n PTrans l x ∧ Below w.heap.size w wr)) (fun i _ wr => 64 * n - wt (rdL wr i))
  case atStart => exact ⟨l, A1, A2, c1, c2, rfl, rfl, HI0⟩
  case round =>
    obtain ⟨x, A1, A2, c1, c2, rfl, rfl, HI⟩ := hrel
    have HL2 := Lib.hid ((HI.out.2.2.1.next HSTEPS.out).sh.1)
    have HQ := Lib.hid (equal_any (run transL x n) x A2 A1 n n c2 c1 wr.heap.size wr (HI.out.2.1.reads HL2.out) (HI.out.1.reads HI.out.2.2.1.sh.1) (by unfold maxLen; omega) (by unfold maxLen; omega))
    by_cases hq : run transL x n = x
    · rw [decide_eq_true hq] at HQ
      have HF := Lib.hid hq
      clear hq
      go_wp2_with fail
      refine (HQ.out).mono ?_
      rintro e w3 ⟨rfl, q, rfl⟩
      go_wp2
      go_ret2
      exact ⟨A1, c1, x, HI.out.2.2.1.done HSTEPS.out HF.out, rfl, HI.out.1.drewN q, below_drewN HI.out.2.2.2 q⟩
    · rw [decide_eq_false hq] at HQ
      have HM := Lib.hid (HI.out.2.2.1.more HSTEPS.out hn hq)
      clear hq
      go_wp2_with fail
      refine (HQ.out).mono ?_
      rintro e w3 ⟨rfl, q, rfl⟩
      have HX := Lib.hid (extendTransitiveH_any (run transL x n) A2 n c2 (wr.drewN q) ((HI.out.2.1.drewN q).reads HL2.out) (HI.out.2.2.1.next HSTEPS.out).sh hn (HT.out.below (below_drewN HI.out.2.2.2 q)) h0)
      go_wp2_with fail
      refine (HX.out).mono ?_
      rintro e w4 ⟨A3, c3, rfl, hR3, hb3⟩
      have hb4 : Below (wr.drewN q).heap.size wr w4 := ((below_drewN (Below.refl _ _) q)).trans hb3
      have HR4 : Hid (OwnL w.heap.size w4 A2 (run transL x n)) := Lib.hid (HI.out.2.1.below hb4)
      have HI2 : Hid (OwnL w.heap.size w4 A2 (run transL x n) ∧ OwnL w.heap.size w4 A3 (run transL (run transL x n) n) ∧ Mid n PTrans l (run transL x n) ∧ Below w.heap.size w w4) := Lib.hid ⟨HR4.out, hR3.mono HI.out.2.2.2.size, HI.out.2.2.1.next HSTEPS.out, HI.out.2.2.2.trans (hb4.mono HI.out.2.2.2.size)⟩
      clear hR3 hb3 hb4
      go_wp2
      go_roundw
      case rel => exact ⟨run transL x n, A2, A3, c2, c3, rfl, rfl, HI2⟩
      case measure =>
        rw [rdL_reads (HI.out.1.reads HI.out.2.2.1.sh.1), rdL_reads (HR4.out.reads HL2.out)]
        have := HM.out
        omega
theorem stTransitive_any (l : List Nat) (A : Option Addr) (n c : Nat) (w : World) (hR : Reads w w.heap.size 1 A n (us l)) (hS : Sh n l) (hn : n ≤ 64) (hT : Tab w) (h0 : 0 < n) :
    Calls Tryz.prog 196 #[.slice A n c] w fun e w' => ∃ A' c' C, IsClo n PTrans l C ∧ e = .returned (.tuple #[.slice A' n c', .int .i64 0]) ∧ OwnL w.heap.size w' A' C ∧ Below w.heap.size w w' := by
  have H := Lib.hid (closureTransitiveH_any l A n c w hR hS hn hT h0)
  clear hR hS hT
  go_enter Tryz.func196, Tryz.ntmps196
  go_wp2_with fail
  refine (H.out).mono ?_
  rintro e w1 ⟨A1, c1, C, hC, rfl, hR1, hb1⟩
  have HH := Lib.hid (And.intro hC (And.intro hR1 hb1))
  clear hC hR1 hb1
  go_wp2
  go_ret2
  exact ⟨A1, c1, C, HH.out.1, rfl, HH.out.2.1, HH.out.2.2⟩
set_option maxRecDepth 100000 in
theorem extendEuclideanH_any (l : List Nat) (A : Option Addr) (n c : Nat) (w : World) (hR : Reads w w.heap.size 1 A n (us l)) (hS : Sh n l) (hn : n ≤ 64) (hT : Tab w) (h0 : 0 < n) :
    Calls Tryz.prog 173 #[.slice A n c, .func (.func 136) #[] #[]] w fun e w' => ∃ A' c', e = .returned (.slice A' n c') ∧ OwnL w.heap.size w' A' (run (fun l k => euclL l k n) l n) ∧ Below w.heap.size w w' := by
  have HC := Lib.hid (clone_any l A n c w hR hn)
  have HS := Lib.hid hS
  have HT := Lib.hid hT
  clear hR hS hT
  go_enter Tryz.func173, Tryz.ntmps173
  go_wp2_with fail
  refine (HC.out).mono ?_
  rintro e w1 ⟨A1, c1, rfl, hg, hb⟩
  have HG := Lib.hid hg
  have HB := Lib.hid hb
  clear hg hb
  by_cases hn0 : n = 0
  · omega
  · obtain ⟨g, rfl, hg1, hH1⟩ := HG.out (by omega)
    have HG1 := Lib.hid hg1
    have HH1 := Lib.hid hH1
    clear hg1 hH1 HG
    have hg0 : 0 < g := by have := HG1.out; have := HT.out.2; omega
    have HG0 := Lib.hid hg0
    clear hg0
    have HSTEPS := Lib.hid (euclL_steps n)
    go_wp2
    go_loopw [11] (fun i wr => ∃ k : Nat, k ≤ n ∧ i = .int .i64 k ∧ Hid (HoldsP wr g (run (fun l k => euclL l k n) l k) ∧ BelowBut w1.heap.size g w1 wr)) (fun i _ => n - (intOf i).toNat)
    case atStart => exact ⟨0, Nat.zero_le _, rfl, Lib.hid ⟨HH1.out, BelowBut.refl _ _ _⟩⟩
    case round =>
      obtain ⟨k, hk, rfl, HI⟩ := hrel
      by_cases hlt : k < n
      · have HW : Hid (Calls Tryz.prog 136 #[.slice (some ⟨g, 0, none⟩) n c1, .int .i64 k] wr fun e w' => e = .returned (.tuple #[]) ∧ HoldsP w' g (run (fun l k => euclL l k n) l (k + 1)) ∧ BelowBut w1.heap.size g w1 w') := Lib.hid (by
          have hH := HI.out.1
          have hB := HI.out.2
          have hS := (HSTEPS.out.run_sh HS.out k (by omega)).1
          have hT : Tab wr := HT.out.below (HB.out.trans ((hB.mono HB.out.size).below HG1.out))
          have hg0 := HG0.out
          have hk := hlt
          generalize hL : run (fun l k => euclL l k n) l k = L at hH hS
          refine (stepEuclidean_any L g n c1 k wr hH (sh_words hn hS) hS.2 hS.1 hk hn hT hg0).mono ?_
          rintro e w' ⟨he, h1, h2⟩
          refine ⟨he, ?_, hB.trans (h2.mono hB.size)⟩
          rw [run_succ, hL]
          exact h1)
        clear HI
        go_wp2_with fail
        refine (HW.out).mono ?_
        rintro e w2 ⟨rfl, h1, h2⟩
        have H2 := Lib.hid (And.intro h1 h2)
        clear h1 h2 HW
        go_wp2
        go_roundw
        case rel => exact ⟨k + 1, by omega, by go_num, H2⟩
        case measure => simp [intOf]; omega
      · have hkn : n = k := by omega
        subst hkn
        go_wp2
        go_ret
        exact ⟨_, c1, rfl, ⟨g, rfl, HG1.out, HI.out.1⟩, HB.out.trans ((HI.out.2.mono HB.out.size).below HG1.out)⟩
set_option maxRecDepth 100000 in
set_option maxHeartbeats 4000000 in
theorem closureEuclideanH_any (l : List Nat) (A : Option Addr) (n c : Nat) (w : World) (hR : Reads w w.heap.size 1 A n (us l)) (hS : Sh n l) (hn : n ≤ 64) (hT : Tab w) (h0 : 0 < n) :
    Calls Tryz.prog 204 #[.slice A n c, .func (.func 136) #[] #[]] w fun e w' => ∃ A' c' C, IsClo n PEucl l C ∧ e = .returned (.tuple #[.slice A' n c', .int .i64 0]) ∧ OwnL w.heap.size w' A' C ∧ Below w.heap.size w w' := by
  have HK := Lib.hid (check_any n l A n c _ w hR (sh_words hn hS) (by unfold maxLen; omega))
  have hre : relErr n l = 0 := by have := sh_err hS hn; rwa [hS.1] at this
  rw [hre] at HK
  have HS := Lib.hid hS
  have HT := Lib.hid hT
  have HSTEPS := Lib.hid (euclL_steps n)
  have HC := Lib.hid (clone_any l A n c w hR hn)
  clear hR hS hT hre
  go_enter Tryz.func204, Tryz.ntmps204
  go_wp2_with fail
  refine (HK.out).mono ?_
  rintro e w0 ⟨rfl, rfl⟩
  go_wp2_with fail
  refine (HC.out).mono ?_
  rintro e w1 ⟨A1, c1, rfl, hg, hb⟩
  have HO1 : Hid (OwnL w.heap.size w1 A1 l) := Lib.hid (hg h0)
  have HX := Lib.hid (extendEuclideanH_any l A1 n c1 w1 (HO1.out.reads HS.out.1) HS.out hn (HT.out.below hb) h0)
  have HB := Lib.hid hb
  clear hg hb
  go_wp2_with fail
  refine (HX.out).mono ?_
  rintro e w2 ⟨A2, c2, rfl, hR2, hb2⟩
  have HI0 : Hid (OwnL w.heap.size w2 A1 l ∧ OwnL w.heap.size w2 A2 (run (fun l k => euclL l k n) l n) ∧ Mid n PEucl l l ∧ Below w.heap.size w w2) := Lib.hid ⟨HO1.out.below hb2, hR2.mono HB.out.size, Mid.start HS.out, HB.out.trans (hb2.mono HB.out.size)⟩
  clear hR2 hb2
  go_wp2
  go_loopw [7, 8] (fun i j wr => ∃ (x : List Nat) (A1 A2 : Option Addr) (c1 c2 : Nat), i = .slice A1 n c1 ∧ j = .slice A2 n c2 ∧ Hid (OwnL w.heap.size wr A1 x ∧ OwnL w.heap.size wr A2 (run (fun l k => euclL l k n) x n) ∧ Mid n PEucl l x ∧ Below w.heap.size w wr)) (fun i _ wr => 64 * n - wt (rdL wr i))
  case atStart => exact ⟨l, A1, A2, c1, c2, rfl, rfl, HI0⟩
  case round =>
    obtain ⟨x, A1, A2, c1, c2, rfl, rfl, HI⟩ := hrel
    have HL2 := Lib.hid ((HI.out.2.2.1.next HSTEPS.out).sh.1)
    have HQ := Lib.hid (equal_any (run (fun l k => euclL l k n) x n) x A2 A1 n n c2 c1 wr.heap.size wr (HI.out.2.1.reads HL2.out) (HI.out.1.reads HI.out.2.2.1.sh.1) (by unfold maxLen; omega) (by unfold maxLen; omega))
    by_cases hq : run (fun l k => euclL l k n) x n = x
    · rw [decide_eq_true hq] at HQ
      have HF := Lib.hid hq
      clear hq
      go_wp2_with fail
      refine (HQ.out).mono ?_
      rintro e w3 ⟨rfl, q, rfl⟩
      go_wp2
      go_ret2
      exact ⟨A1, c1, x, HI.out.2.2.1.done HSTEPS.out HF.out, rfl, HI.out.1.drewN q, below_drewN HI.out.2.2.2 q⟩
    · rw [decide_eq_false hq] at HQ
      have HM := Lib.hid (HI.out.2.2.1.more HSTEPS.out hn hq)
      clear hq
      go_wp2_with fail
      refine (HQ.out).mono ?_
      rintro e w3 ⟨rfl, q, rfl⟩
      have HX := Lib.hid (extendEuclideanH_any (run (fun l k => euclL l k n) x n) A2 n c2 (wr.drewN q) ((HI.out.2.1.drewN q).reads HL2.out) (HI.out.2.2.1.next HSTEPS.out).sh hn (HT.out.below (below_drewN HI.out.2.2.2 q)) h0)
      go_wp2_with fail
      refine (HX.out).mono ?_
      rintro e w4 ⟨A3, c3, rfl, hR3, hb3⟩
      have hb4 : Below (wr.drewN q).heap.size wr w4 := ((below_drewN (Below.refl _ _) q)).trans hb3
      have HR4 : Hid (OwnL w.heap.size w4 A2 (run (fun l k => euclL l k n) x n)) := Lib.hid (HI.out.2.1.below hb4)
      have HI2 : Hid (OwnL w.heap.size w4 A2 (run (fun l k => euclL l k n) x n) ∧ OwnL w.heap.size w4 A3 (run (fun l k => euclL l k n) (run (fun l k => euclL l k n) x n) n) ∧ Mid n PEucl l (run (fun l k => euclL l k n) x n) ∧ Below w.heap.size w w4) := Lib.hid ⟨HR4.out, hR3.mono HI.out.2.2.2.size, HI.out.2.2.1.next HSTEPS.out, HI.out.2.2.2.trans (hb4.mono HI.out.2.2.2.size)⟩
      clear hR3 hb3 hb4
      go_wp2
      go_roundw
      case rel => exact ⟨run (fun l k => euclL l k n) x n, A2, A3, c2, c3, rfl, rfl, HI2⟩
      case measure =>
        rw [rdL_reads (HI.out.1.reads HI.out.2.2.1.sh.1), rdL_reads (HR4.out.reads HL2.out)]
        have := HM.out
        omega
theorem stEuclidean_any (l : List Nat) (A : Option Addr) (n c : Nat) (w : World) (hR : Reads w w.heap.size 1 A n (us l)) (hS : Sh n l) (hn : n ≤ 64) (hT : Tab w) (h0 : 0 < n) :
    Calls Tryz.prog 197 #[.slice A n c] w fun e w' => ∃ A' c' C, IsClo n PEucl l C ∧ e = .returned (.tuple #[.slice A' n c', .int .i64 0]) ∧ OwnL w.heap.size w' A' C ∧ Below w.heap.size w w' := by
  have H := Lib.hid (closureEuclideanH_any l A n c w hR hS hn hT h0)
  clear hR hS hT
  go_enter Tryz.func197, Tryz.ntmps197
  go_wp2_with fail
  refine (H.out).mono ?_
  rintro e w1 ⟨A1, c1, C, hC, rfl, hR1, hb1⟩
  have HH := Lib.hid (And.intro hC (And.intro hR1 hb1))
  clear hC hR1 hb1
  go_wp2
  go_ret2
  exact ⟨A1, c1, C, HH.out.1, rfl, HH.out.2.1, HH.out.2.2⟩
end Go.Proofs.YtjpmhbnikoggaaaGreatDoor
/- Layer 15: extend and closure by the program. -/
namespace Go.Proofs.YtjpmhbnikoggaaaGreatDoor
open Go.RowKit Go.Proofs.Ws
set_option maxRecDepth 100000
theorem steps_snoc {n : Nat} {p : Int} : ∀ {L : List Int} {l D C : List Nat}, CloSteps n L l D → CloStep n p D C → CloSteps n (L ++ [p]) l C
  | [], l, D, C, h, k => by
    have h : D = l := h
    subst h
    exact ⟨C, k, rfl⟩
  | _ :: _, _, _, _, ⟨E, h1, h2⟩, k => ⟨E, h1, steps_snoc h2 k⟩
set_option maxHeartbeats 4000000 in
theorem extend_any (B0 : Nat) (l : List Nat) (A : Option Addr) (n c : Nat) (P : List Int) (D : Option Addr) (k d : Nat) (w : World) (hB0 : B0 ≤ w.heap.size) (hR : OwnL B0 w A l) (hS : Sh n l) (hn : n ≤ 64) (hT : Tab w)
    (hP : Reads w w.heap.size 1 D k (ints P)) (hk : k ≤ 1000) (h0 : 0 < n) :
    Calls Tryz.prog 169 #[.slice A n c, .slice D k d] w fun e w' => ∃ A' c' C, CloSteps n P l C ∧ Sh n C ∧ e = .returned (.slice A' n c') ∧ OwnL B0 w' A' C ∧ Below w.heap.size w w' := by
  have hl := hP.int_len
  have HP := Lib.hid hP
  have HL := Lib.hid hl
  have HT := Lib.hid (fun W (hb : Below w.heap.size w W) => hT.below hb)
  have H0 : Hid (OwnL B0 w A l ∧ Sh n l ∧ CloSteps n (P.take 0) l l ∧ Below w.heap.size w w) := Lib.hid ⟨hR, hS, rfl, Below.refl _ _⟩
  clear hR hS hT hP hl
  go_enter Tryz.func169, Tryz.ntmps169
  go_wp2
  go_loopw [0, 6, 9] (fun r _ i wr => ∃ (j : Nat) (x : List Nat) (A' : Option Addr) (c' : Nat), j ≤ k ∧ i = .int .i64 j ∧ r = .slice A' n c' ∧ Hid (OwnL B0 wr A' x ∧ Sh n x ∧ CloSteps n (P.take j) l x ∧ Below w.heap.size w wr)) (fun _ _ i _ => k - (intOf i).toNat)
  case atStart => exact ⟨0, l, A, c, Nat.zero_le _, rfl, rfl, H0⟩
  case round =>
    obtain ⟨j, x, A', c', hj, rfl, rfl, HI⟩ := hrel
    by_cases hlt : j < k
    · obtain ⟨ad, rfl, _, hcj⟩ := (HP.out.below HI.out.2.2.2).int_k hlt
      have hjl : j < P.length := by have := HL.out; omega
      have hg : P.getD j 0 = P[j] := by simp [hjl]
      have HTK : Hid (P.take (j + 1) = P.take j ++ [P.getD j 0]) := Lib.hid (by rw [List.take_succ_eq_append_getElem hjl, hg])
      clear hg
      generalize hp : P.getD j 0 = p at *
      clear hp
      by_cases hp2 : p = 2
      case pos =>
        obtain rfl : p = 2 := hp2
        have HX := Lib.hid (stReflexive_any x A' n c' wr (HI.out.1.reads HI.out.2.1.1) HI.out.2.1 hn (HT.out _ HI.out.2.2.2) h0)
        go_wp2_with fail
        refine (HX.out).mono ?_
        rintro e w2 ⟨A2, c2, C, hC, rfl, hR2, hb2⟩
        have HI2 : Hid (OwnL B0 w2 A2 C ∧ Sh n C ∧ CloSteps n (P.take (j + 1)) l C ∧ Below w.heap.size w w2) := Lib.hid ⟨hR2.mono (Nat.le_trans hB0 HI.out.2.2.2.size), hC.sh, by rw [HTK.out]; exact steps_snoc HI.out.2.2.1 (.inl ⟨rfl, hC⟩), HI.out.2.2.2.trans (hb2.mono HI.out.2.2.2.size)⟩
        clear hR2 hb2 hC hcj
        go_wp2
        go_roundw
        case rel => exact ⟨j + 1, C, A2, c2, by omega, by go_num, rfl, HI2⟩
        case measure => first | (simp [intOf]; done) | (simp [intOf]; omega)
      case neg =>
        by_cases hp4 : p = 4
        case pos =>
          obtain rfl : p = 4 := hp4
          have HX := Lib.hid (stTransitive_any x A' n c' wr (HI.out.1.reads HI.out.2.1.1) HI.out.2.1 hn (HT.out _ HI.out.2.2.2) h0)
          go_wp2_with fail
          refine (HX.out).mono ?_
          rintro e w2 ⟨A2, c2, C, hC, rfl, hR2, hb2⟩
          have HI2 : Hid (OwnL B0 w2 A2 C ∧ Sh n C ∧ CloSteps n (P.take (j + 1)) l C ∧ Below w.heap.size w w2) := Lib.hid ⟨hR2.mono (Nat.le_trans hB0 HI.out.2.2.2.size), hC.sh, by rw [HTK.out]; exact steps_snoc HI.out.2.2.1 (.inr (.inl ⟨rfl, hC⟩)), HI.out.2.2.2.trans (hb2.mono HI.out.2.2.2.size)⟩
          clear hR2 hb2 hC hcj
          go_wp2
          go_roundw
          case rel => exact ⟨j + 1, C, A2, c2, by omega, by go_num, rfl, HI2⟩
          case measure => first | (simp [intOf]; done) | (simp [intOf]; omega)
        case neg =>
          by_cases hp5 : p = 5
          case pos =>
            obtain rfl : p = 5 := hp5
            have HX := Lib.hid (stEuclidean_any x A' n c' wr (HI.out.1.reads HI.out.2.1.1) HI.out.2.1 hn (HT.out _ HI.out.2.2.2) h0)
            go_wp2_with fail
            refine (HX.out).mono ?_
            rintro e w2 ⟨A2, c2, C, hC, rfl, hR2, hb2⟩
            have HI2 : Hid (OwnL B0 w2 A2 C ∧ Sh n C ∧ CloSteps n (P.take (j + 1)) l C ∧ Below w.heap.size w w2) := Lib.hid ⟨hR2.mono (Nat.le_trans hB0 HI.out.2.2.2.size), hC.sh, by rw [HTK.out]; exact steps_snoc HI.out.2.2.1 (.inr (.inr (.inl ⟨rfl, hC⟩))), HI.out.2.2.2.trans (hb2.mono HI.out.2.2.2.size)⟩
            clear hR2 hb2 hC hcj
            go_wp2
            go_roundw
            case rel => exact ⟨j + 1, C, A2, c2, by omega, by go_num, rfl, HI2⟩
            case measure => first | (simp [intOf]; done) | (simp [intOf]; omega)
          case neg =>
            have d2 : (p == 2) = false := by rw [beq_eq_false_iff_ne]; exact hp2
            have d4 : (p == 4) = false := by rw [beq_eq_false_iff_ne]; exact hp4
            have d5 : (p == 5) = false := by rw [beq_eq_false_iff_ne]; exact hp5
            have HI2 : Hid (OwnL B0 wr A' x ∧ Sh n x ∧ CloSteps n (P.take (j + 1)) l x ∧ Below w.heap.size w wr) := Lib.hid ⟨HI.out.1, HI.out.2.1, by rw [HTK.out]; exact steps_snoc HI.out.2.2.1 (.inr (.inr (.inr ⟨hp2, hp4, hp5, rfl⟩))), HI.out.2.2.2⟩
            clear hp2 hp4 hp5
            go_wp2
            go_roundw
            case rel => exact ⟨j + 1, x, A', c', by omega, by go_num, rfl, HI2⟩
            case measure => first | (simp [intOf]; done) | (simp [intOf]; omega)
    · obtain rfl : k = j := by omega
      have HE : Hid (P.take k = P) := Lib.hid (List.take_of_length_le (by have := HL.out; omega))
      go_wp2
      go_ret
      exact ⟨A', c', x, by have := HI.out.2.2.1; rwa [HE.out] at this, HI.out.2.1, rfl, HI.out.1, HI.out.2.2.2⟩
theorem wt_more {n : Nat} {x y : List Nat} (hx : Sh n x) (hy : Sh n y) (hn : n ≤ 64) (hle : Le x y) (hne : x ≠ y) : wt x < wt y ∧ wt y ≤ 64 * n := by
  refine ⟨(wt_mono x y (by rw [hx.1, hy.1]) (sh_words hn hx) (sh_words hn hy) (fun i v h => hle i v h)).2 hne, ?_⟩
  have := wt_le y
  rwa [hy.1] at this
set_option maxHeartbeats 4000000 in
theorem pClosure_any (l : List Nat) (A : Option Addr) (n c : Nat) (P : List Int) (D : Option Addr) (k d : Nat) (w : World) (hR : Reads w w.heap.size 1 A n (us l)) (hS : Sh n l) (hn : n ≤ 64) (hT : Tab w)
    (hP : Reads w w.heap.size 1 D k (ints P)) (hk : k ≤ 1000) (h0 : 0 < n) :
    Calls Tryz.prog 126 #[.slice A n c, .slice D k d] w fun e w' => ∃ A' c' C, IsClo n (CloP n P) l C ∧ e = .returned (.slice A' n c') ∧ OwnL w.heap.size w' A' C ∧ Below w.heap.size w w' := by
  have HX := Lib.hid (fun W (hb : Below w.heap.size w W) x A c (h : OwnL w.heap.size W A x) (hS : Sh n x) => extend_any w.heap.size x A n c P D k d W hb.size h hS hn (hT.below hb) ((hP.below hb).more hb.size) hk h0)
  have HC := Lib.hid (clone_any l A n c w hR hn)
  have HSL := Lib.hid hS
  clear hR hS hT hP hk
  go_enter Tryz.func126, Tryz.ntmps126
  go_wp2_with fail
  refine (HC.out).mono ?_
  rintro e w1 ⟨A1, c1, rfl, hg, hb⟩
  have HO1 : Hid (OwnL w.heap.size w1 A1 l) := Lib.hid (hg h0)
  have HB := Lib.hid hb
  clear hg hb
  go_wp2_with fail
  refine (HX.out w1 HB.out l _ c1 HO1.out HSL.out).mono ?_
  rintro e w2 ⟨A2, c2, y, hy, hys, rfl, hR2, hb2⟩
  have HI0 : Hid (OwnL w.heap.size w2 A1 l ∧ OwnL w.heap.size w2 A2 y ∧ CloR n P l l ∧ CloSteps n P l y ∧ Sh n y ∧ Below w.heap.size w w2) := Lib.hid ⟨HO1.out.below hb2, hR2, CloR.start HSL.out, hy, hys, HB.out.trans (hb2.mono HB.out.size)⟩
  clear hR2 hb2 hy hys
  go_wp2
  go_loopw [5, 6] (fun i j wr => ∃ (x y : List Nat) (A1 A2 : Option Addr) (c1 c2 : Nat), i = .slice A1 n c1 ∧ j = .slice A2 n c2 ∧ Hid (OwnL w.heap.size wr A1 x ∧ OwnL w.heap.size wr A2 y ∧ CloR n P l x ∧ CloSteps n P x y ∧ Sh n y ∧ Below w.heap.size w wr)) (fun i _ wr => 64 * n - wt (rdL wr i))
  case atStart => exact ⟨l, y, _, A2, c1, c2, rfl, rfl, HI0⟩
  case round =>
    obtain ⟨x, y, A1, A2, c1, c2, rfl, rfl, HI⟩ := hrel
    have HQ := Lib.hid (sEqual_any y x A2 A1 n n c2 c1 wr.heap.size wr (HI.out.2.1.reads HI.out.2.2.2.2.1.1) (HI.out.1.reads HI.out.2.2.1.sh.1) (by unfold maxLen; omega) (by unfold maxLen; omega))
    by_cases hq : y = x
    · rw [decide_eq_true hq] at HQ
      subst hq
      go_wp2_with fail
      refine (HQ.out).mono ?_
      rintro e w3 ⟨rfl, q, rfl⟩
      go_wp2
      go_ret
      exact ⟨A1, c1, y, HI.out.2.2.1.fin HI.out.2.2.2.1, rfl, HI.out.1.drewN q, below_drewN HI.out.2.2.2.2.2 q⟩
    · rw [decide_eq_false hq] at HQ
      have HM := Lib.hid (wt_more HI.out.2.2.1.sh HI.out.2.2.2.2.1 hn (HI.out.2.2.2.1.facts HI.out.2.2.1.sh).2.1 (fun e => hq e.symm))
      clear hq
      go_wp2_with fail
      refine (HQ.out).mono ?_
      rintro e w3 ⟨rfl, q, rfl⟩
      go_wp2_with fail
      refine (HX.out (wr.drewN q) (below_drewN HI.out.2.2.2.2.2 q) y A2 c2 (HI.out.2.1.drewN q) HI.out.2.2.2.2.1).mono ?_
      rintro e w4 ⟨A3, c3, z, hz, hzs, rfl, hR3, hb3⟩
      have hb4 : Below (wr.drewN q).heap.size wr w4 := ((below_drewN (Below.refl _ _) q)).trans hb3
      have HR4 : Hid (OwnL w.heap.size w4 A2 y) := Lib.hid (HI.out.2.1.below hb4)
      have HI2 : Hid (OwnL w.heap.size w4 A2 y ∧ OwnL w.heap.size w4 A3 z ∧ CloR n P l y ∧ CloSteps n P y z ∧ Sh n z ∧ Below w.heap.size w w4) := Lib.hid ⟨HR4.out, hR3, HI.out.2.2.1.next HI.out.2.2.2.1, hz, hzs, HI.out.2.2.2.2.2.trans (hb4.mono HI.out.2.2.2.2.2.size)⟩
      clear hR3 hb3 hb4 hz hzs
      go_wp2
      go_roundw
      case rel => exact ⟨y, z, A2, A3, c2, c3, rfl, rfl, HI2⟩
      case measure =>
        rw [rdL_reads (HI.out.1.reads HI.out.2.2.1.sh.1), rdL_reads (HR4.out.reads HI.out.2.2.2.2.1.1)]
        have := HM.out
        omega
end Go.Proofs.YtjpmhbnikoggaaaGreatDoor
/- Layer 15: slices.Contains of ints, addLoops. -/
namespace Go.Proofs.YtjpmhbnikoggaaaGreatDoor
open Go.RowKit Go.Proofs.Ws
set_option maxRecDepth 100000
theorem indexI_any (P : List Int) (x : Int) (D : Option Addr) (k d : Nat) (w : World) (hP : Reads w w.heap.size 1 D k (ints P)) (hk : k ≤ 1000) :
    Calls Tryz.prog 171 #[.slice D k d, .int .i64 x] w fun e w' => ∃ z : Int, e = .returned (.int .i64 z) ∧ decide (0 ≤ z) = decide (x ∈ P) ∧ w = w' := by
  have hl := hP.int_len
  have HL := Lib.hid hl
  have HP := Lib.hid hP
  clear hl hP
  go_enter Tryz.func171, Tryz.ntmps171
  go_wp2
  go_loopw [8] (fun i wr => ∃ j : Nat, j ≤ k ∧ i = .int .i64 j ∧ Hid (decide (x ∈ P) = decide (x ∈ P.drop j)) ∧ wr = w) (fun i _ => k - (intOf i).toNat)
  case atStart => exact ⟨0, Nat.zero_le _, rfl, Lib.hid rfl, rfl⟩
  case round =>
    obtain ⟨j, hj, rfl, HI, rfl⟩ := hrel
    by_cases hlt : j < k
    · obtain ⟨ad, rfl, _, hcj⟩ := HP.out.int_k hlt
      have hjl : j < P.length := by have := HL.out; omega
      have hg : P.getD j 0 = P[j] := by simp [hjl]
      have HD : Hid (P.drop j = P.getD j 0 :: P.drop (j + 1)) := Lib.hid (by rw [hg]; exact List.drop_eq_getElem_cons hjl)
      clear hg
      generalize P.getD j 0 = y at *
      by_cases hxy : x = y
      · subst hxy
        have HE : Hid (decide (x ∈ P) = true) := Lib.hid (by rw [HI.out, HD.out]; simp)
        have hself : (x == x) = true := by simp
        go_wp2
        go_ret
        exact ⟨(j : Int), rfl, by rw [HE.out]; simp, rfl⟩
      · have HI2 : Hid (decide (x ∈ P) = decide (x ∈ P.drop (j + 1))) := Lib.hid (by rw [HI.out, HD.out]; simp [hxy])
        have hne : (x == y) = false := by rw [beq_eq_false_iff_ne]; exact hxy
        clear hxy
        go_wp2
        go_roundw
        case rel => exact ⟨j + 1, by omega, by go_num, HI2, by first | rfl | trivial⟩
        case measure => simp [intOf]; omega
    · have HE : Hid (decide (x ∈ P) = false) := Lib.hid (by rw [HI.out, List.drop_eq_nil_of_le (by have := HL.out; omega)]; simp)
      go_wp2
      go_ret
      exact ⟨-1, rfl, by rw [HE.out]; rfl, rfl⟩
theorem containsI_any (P : List Int) (x : Int) (D : Option Addr) (k d : Nat) (w : World) (hP : Reads w w.heap.size 1 D k (ints P)) (hk : k ≤ 1000) :
    Calls Tryz.prog 127 #[.slice D k d, .int .i64 x] w fun e w' => e = .returned (.bool (decide (x ∈ P))) ∧ w = w' := by
  have H := Lib.hid (indexI_any P x D k d w hP hk)
  clear hP
  go_enter Tryz.func127, Tryz.ntmps127
  go_wp2_with fail
  refine (H.out).mono ?_
  rintro e w' ⟨z, rfl, hz, rfl⟩
  have HZ := Lib.hid hz
  clear hz
  go_wp2
  go_ret
  exact ⟨ret_bool HZ.out, rfl⟩
/-- the loops of the first k worlds are added -/
def serK (l : List Nat) (k : Nat) : List Nat := (List.range l.length).map (fun w => if w < k ∧ l.getD w 0 = 0 then p2 w else l.getD w 0)
theorem serK_len (l : List Nat) (k : Nat) : (serK l k).length = l.length := by simp [serK]
theorem serK_get {l : List Nat} {k w : Nat} (h : w < l.length) : (serK l k).getD w 0 = if w < k ∧ l.getD w 0 = 0 then p2 w else l.getD w 0 := by
  rw [List.getD_eq_getElem?_getD, serK, List.getElem?_map, List.getElem?_range h]; rfl
theorem list_getD_ext {a b : List Nat} (hl : a.length = b.length) (h : ∀ i, i < a.length → a.getD i 0 = b.getD i 0) : a = b := by
  apply List.ext_getElem hl
  intro i h1 h2
  have := h i h1
  simpa [h1, h2] using this
theorem serK_zero (l : List Nat) : serK l 0 = l := list_getD_ext (serK_len l 0) fun i hi => by
  rw [serK_len] at hi
  rw [serK_get hi, if_neg (by omega)]
theorem serK_set {l : List Nat} {k : Nat} (hk : k < l.length) (h : l.getD k 0 = 0) : (serK l k).set k (p2 k) = serK l (k + 1) := list_getD_ext (by rw [List.length_set, serK_len, serK_len]) fun i hi => by
  rw [List.length_set, serK_len] at hi
  rw [serK_get hi]
  by_cases e : k = i
  · subst e
    rw [if_pos ⟨by omega, h⟩]
    rw [List.getD_eq_getElem?_getD, List.getElem?_set_self (by rw [serK_len]; exact hk)]; rfl
  · rw [List.getD_eq_getElem?_getD, List.getElem?_set_ne e, ← List.getD_eq_getElem?_getD, serK_get hi]
    by_cases e2 : i < k ∧ l.getD i 0 = 0
    · rw [if_pos e2, if_pos ⟨by omega, e2.2⟩]
    · rw [if_neg e2, if_neg (fun e3 => e2 ⟨by omega, e3.2⟩)]
theorem serK_keep {l : List Nat} {k : Nat} (h : l.getD k 0 ≠ 0) : serK l k = serK l (k + 1) := list_getD_ext (by rw [serK_len, serK_len]) fun i hi => by
  rw [serK_len] at hi
  rw [serK_get hi, serK_get hi]
  by_cases e : k = i
  · subst e
    rw [if_neg (fun e => h e.2), if_neg (fun e => h e.2)]
  · by_cases e2 : i < k ∧ l.getD i 0 = 0
    · rw [if_pos e2, if_pos ⟨by omega, e2.2⟩]
    · rw [if_neg e2, if_neg (fun e3 => e2 ⟨by omega, e3.2⟩)]
theorem serK_all (l : List Nat) : serK l l.length = serL l := by
  unfold serK serL
  apply List.map_congr_left
  intro w hw
  have hw := List.mem_range.1 hw
  by_cases e : l.getD w 0 = 0
  · rw [if_pos ⟨hw, e⟩, if_pos e]; rfl
  · rw [if_neg (fun h => e h.2), if_neg e]
theorem addLoops_any (l : List Nat) (g n c : Nat) (w : World) (hH : HoldsP w g l) (hl : l.length = n) (hn : n ≤ 64) :
    Calls Tryz.prog 128 #[.slice (some ⟨g, 0, none⟩) n c] w fun e w' => e = .returned (.tuple #[]) ∧ HoldsP w' g (serL l) ∧ BelowBut w.heap.size g w w' := by
  have HL := Lib.hid hl
  have H0 : Hid (HoldsP w g (serK l 0) ∧ BelowBut w.heap.size g w w) := Lib.hid ⟨by rw [serK_zero]; exact hH, BelowBut.refl _ _ _⟩
  clear hH hl
  go_enter Tryz.func128, Tryz.ntmps128
  go_wp2
  go_loopw [2, 3, 6] (fun _ _ i wr => ∃ k : Nat, k ≤ n ∧ i = .int .i64 k ∧ Hid (HoldsP wr g (serK l k) ∧ BelowBut w.heap.size g w wr)) (fun _ _ i _ => n - (intOf i).toNat)
  case atStart => exact ⟨0, Nat.zero_le _, rfl, H0⟩
  case round =>
    obtain ⟨k, hk, rfl, HI⟩ := hrel
    by_cases hlt : k < n
    · have hc := HI.out.1.cell k (by rw [serK_len, HL.out]; exact hlt)
      have hf := HI.out.1.free k
      have hx : (serK l k).getD k 0 = l.getD k 0 := by rw [serK_get (by rw [HL.out]; exact hlt), if_neg (by omega)]
      rw [hx] at hc
      clear hx
      by_cases hz : l.getD k 0 = 0
      · have HI2 : Hid (∀ v : Value, v = .int .u64 ((p2 k : Nat) : Int) → HoldsP (wr.setCell ⟨g, k, none⟩ v) g (serK l (k + 1)) ∧ BelowBut w.heap.size g w (wr.setCell ⟨g, k, none⟩ v)) := Lib.hid (fun v hv => by
          subst hv
          refine ⟨?_, HI.out.2.setCell k _⟩
          have := HI.out.1.put k (p2 k)
          rwa [serK_set (by rw [HL.out]; exact hlt) hz] at this)
        rw [hz] at hc
        have hw := wrap_pow k (by omega)
        clear hz HI
        go_wp2
        go_roundw
        case rel => exact ⟨k + 1, by omega, by go_num, Lib.hid (HI2.out _ (by first | rfl | rw [hw]))⟩
        case measure => simp [intOf]; omega
      · have HI2 : Hid (HoldsP wr g (serK l (k + 1)) ∧ BelowBut w.heap.size g w wr) := Lib.hid ⟨by rw [← serK_keep hz]; exact HI.out.1, HI.out.2⟩
        have hz2 : (((l.getD k 0 : Nat) : Int) == 0) = false := by rw [beq_eq_false_iff_ne]; omega
        clear HI hz
        generalize l.getD k 0 = x at *
        go_wp2
        go_roundw
        case rel => exact ⟨k + 1, by omega, by go_num, HI2⟩
        case measure => simp [intOf]; omega
    · have HE : Hid (HoldsP wr g (serL l) ∧ BelowBut w.heap.size g w wr) := Lib.hid (by
        have e : k = l.length := by rw [HL.out]; omega
        have := HI.out
        rwa [e, serK_all] at this)
      clear HI
      go_wp2
      go_end0
      exact ⟨rfl, HE.out⟩
end Go.Proofs.YtjpmhbnikoggaaaGreatDoor
