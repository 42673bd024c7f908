/- Layer 6: texts joined: Fr1 Fr2 Fr3 Fr4 Frh Fr5 Fr6. -/
import Derived.Test.YtjpmhbnikoggaaaDoorNIa
import Derived.Test.YtjpmhbnikoggaaaDoorNIe
import Derived.Test.YtjpmhbnikoggaaaDoorNIf
import Derived.Test.YtjpmhbnikoggaaaDoorNIg
/- Layer 15: the properties of logics; what the closures of the program and of the reference come to. -/
namespace Go.Proofs.Ws
/-- the properties of a logic, and the error -/
def proL (g : Int) : List Int := if g = 1 then [1] else if g = 2 then [2] else if g = 3 then [4] else if g = 4 then [2, 4] else if g = 5 then [1, 4, 5] else if g = 6 then [2, 4, 5] else []
/-- the properties of a list that can be closed to -/
def CloP (n : Nat) (L : List Int) (l : List Nat) : Prop := (2 ∈ L → PRefl n l) ∧ (4 ∈ L → PTrans l) ∧ (5 ∈ L → PEucl l)
/-- one closure after the other -/
def CloStep (n : Nat) (p : Int) (l C : List Nat) : Prop := (p = 2 ∧ IsClo n (PRefl n) l C) ∨ (p = 4 ∧ IsClo n PTrans l C) ∨ (p = 5 ∧ IsClo n PEucl l C) ∨ (p ≠ 2 ∧ p ≠ 4 ∧ p ≠ 5 ∧ C = l)
def CloSteps (n : Nat) : List Int → List Nat → List Nat → Prop
  | [], l, C => C = l
  | p :: L, l, C => ∃ D, CloStep n p l D ∧ CloSteps n L D C
theorem CloStep.facts {n : Nat} {p : Int} {l C : List Nat} (h : CloStep n p l C) (hl : Sh n l) : Sh n C ∧ Le l C ∧ (∀ L s, p ∈ L → Sh n s → CloP n L s → Le l s → Le C s) ∧ (C = l → CloP n [p] l) := by
  rcases h with ⟨rfl, h⟩ | ⟨rfl, h⟩ | ⟨rfl, h⟩ | ⟨h2, h4, h5, rfl⟩
  · exact ⟨h.sh, h.up, fun L s hp hs hc hle => h.least s hs (hc.1 hp) hle, fun e => ⟨fun _ => e ▸ h.has, fun k => absurd k (by decide), fun k => absurd k (by decide)⟩⟩
  · exact ⟨h.sh, h.up, fun L s hp hs hc hle => h.least s hs (hc.2.1 hp) hle, fun e => ⟨fun k => absurd k (by decide), fun _ => e ▸ h.has, fun k => absurd k (by decide)⟩⟩
  · exact ⟨h.sh, h.up, fun L s hp hs hc hle => h.least s hs (hc.2.2 hp) hle, fun e => ⟨fun k => absurd k (by decide), fun k => absurd k (by decide), fun _ => e ▸ h.has⟩⟩
  · exact ⟨hl, Le.refl _, fun _ _ _ _ _ hle => hle, fun _ => ⟨fun k => by simp at k; omega, fun k => by simp at k; omega, fun k => by simp at k; omega⟩⟩
theorem CloSteps.facts {n : Nat} : ∀ {L : List Int} {l C : List Nat}, CloSteps n L l C → Sh n l → Sh n C ∧ Le l C ∧ (∀ M s, (∀ p ∈ L, p ∈ M) → Sh n s → CloP n M s → Le l s → Le C s) ∧ (C = l → CloP n L l)
  | [], l, C, h, hl => by
    have h : C = l := h
    subst h
    exact ⟨hl, Le.refl _, fun _ _ _ _ _ hle => hle, fun _ => ⟨fun k => absurd k (by simp), fun k => absurd k (by simp), fun k => absurd k (by simp)⟩⟩
  | p :: L, l, C, ⟨D, h1, h2⟩, hl => by
    obtain ⟨a1, a2, a3, a4⟩ := h1.facts hl
    obtain ⟨b1, b2, b3, b4⟩ := CloSteps.facts h2 a1
    refine ⟨b1, a2.trans b2, fun M s hp hs hc hle => b3 M s (fun q hq => hp q (List.mem_cons_of_mem _ hq)) hs hc (a3 M s (hp p List.mem_cons_self) hs hc hle), fun e => ?_⟩
    subst e
    have hD : D = C := Le.antisymm a1 hl b2 a2
    have c1 := a4 hD
    subst hD
    have c2 := b4 rfl
    refine ⟨fun k => ?_, fun k => ?_, fun k => ?_⟩
    · rcases List.mem_cons.1 k with e | e
      · exact c1.1 (by rw [e]; exact List.mem_singleton.2 rfl)
      · exact c2.1 e
    · rcases List.mem_cons.1 k with e | e
      · exact c1.2.1 (by rw [e]; exact List.mem_singleton.2 rfl)
      · exact c2.2.1 e
    · rcases List.mem_cons.1 k with e | e
      · exact c1.2.2 (by rw [e]; exact List.mem_singleton.2 rfl)
      · exact c2.2.2 e
/-- what the program's loop keeps: the next round starts here -/
structure CloR (n : Nat) (L : List Int) (r c : List Nat) : Prop where
  sh : Sh n c
  up : Le r c
  least : ∀ s, Sh n s → CloP n L s → Le r s → Le c s
theorem CloR.start {n : Nat} {L : List Int} {r : List Nat} (h : Sh n r) : CloR n L r r := ⟨h, Le.refl _, fun _ _ _ h => h⟩
theorem CloR.next {n : Nat} {L : List Int} {r c d : List Nat} (h : CloR n L r c) (k : CloSteps n L c d) : CloR n L r d := by
  obtain ⟨a1, a2, a3, _⟩ := k.facts h.sh
  exact ⟨a1, h.up.trans a2, fun s hs hc hle => a3 L s (fun _ hp => hp) hs hc (h.least s hs hc hle)⟩
theorem CloR.fin {n : Nat} {L : List Int} {r c : List Nat} (h : CloR n L r c) (k : CloSteps n L c c) : IsClo n (CloP n L) r c :=
  ⟨h.sh, h.up, (k.facts h.sh).2.2.2 rfl, h.least⟩
/-- a relation told by its pairs -/
def relOf (n : Nat) (p : Nat → Nat → Bool) : List Nat := (List.range n).map (fun w => bitsN (p w) n)
theorem relOf_sh (n : Nat) (p : Nat → Nat → Bool) : Sh n (relOf n p) := ⟨by simp [relOf], fun x hx => by
  obtain ⟨w, _, rfl⟩ := List.mem_map.1 hx
  exact bitsN_lt _ _⟩
theorem relOf_bit (n : Nat) (p : Nat → Nat → Bool) (w v : Nat) : bit (relOf n p) w v = true ↔ w < n ∧ v < n ∧ p w v = true := by
  unfold bit relOf
  by_cases h : w < n
  · have e : ((List.range n).map (fun w => bitsN (p w) n)).getD w 0 = bitsN (p w) n := by simp [h]
    rw [e, bitsN_bit, Bool.and_eq_true, decide_eq_true_eq]
    exact ⟨fun k => ⟨h, k.1, k.2⟩, fun k => ⟨k.2.1, k.2.2⟩⟩
  · have e : ((List.range n).map (fun w => bitsN (p w) n)).getD w 0 = 0 := by simp [h]
    rw [e, Nat.zero_testBit]
    exact ⟨fun k => absurd k (by decide), fun k => absurd k.1 h⟩
open Classical in
/-- the transitive closure of a euclidean relation is euclidean -/
theorem trans_eucl {n : Nat} {E T : List Nat} (he : PEucl E) (hE : Sh n E) (h : IsClo n PTrans E T) : PEucl T := by
  -- what a step of E leads to, is left by T to whatever T reaches
  have k1 : ∀ p q, bit T p q = true → ∀ r, bit E p r = true → bit T r q = true := by
    intro p q hpq
    have hs := h.least (relOf n (fun p q => bit T p q && decide (∀ r, bit E p r = true → bit T r q = true))) (relOf_sh _ _) (by
      intro a b c h1 h2
      rw [relOf_bit, Bool.and_eq_true, decide_eq_true_eq] at h1 h2 ⊢
      exact ⟨h1.1, h2.2.1, h.has _ _ _ h1.2.2.1 h2.2.2.1, fun r hr => h.has _ _ _ (h1.2.2.2 r hr) h2.2.2.1⟩) (by
      intro a b hab
      rw [relOf_bit, Bool.and_eq_true, decide_eq_true_eq]
      have := bit_in hE hab
      exact ⟨this.1, this.2, h.up _ _ hab, fun r hr => h.up _ _ (he a r b hr hab)⟩) p q hpq
    rw [relOf_bit, Bool.and_eq_true, decide_eq_true_eq] at hs
    exact hs.2.2.2
  have k2 : ∀ p q, bit T p q = true → ∀ r, bit T p r = true → bit T q r = true := by
    intro p q hpq
    have hs := h.least (relOf n (fun p q => bit T p q && decide (∀ r, bit T p r = true → bit T q r = true))) (relOf_sh _ _) (by
      intro a b c h1 h2
      rw [relOf_bit, Bool.and_eq_true, decide_eq_true_eq] at h1 h2 ⊢
      exact ⟨h1.1, h2.2.1, h.has _ _ _ h1.2.2.1 h2.2.2.1, fun r hr => h2.2.2.2 r (h1.2.2.2 r hr)⟩) (by
      intro a b hab
      rw [relOf_bit, Bool.and_eq_true, decide_eq_true_eq]
      have := bit_in hE hab
      exact ⟨this.1, this.2, h.up _ _ hab, fun r hr => k1 a r hr b hab⟩) p q hpq
    rw [relOf_bit, Bool.and_eq_true, decide_eq_true_eq] at hs
    exact hs.2.2.2
  exact fun w u v h1 h2 => k2 w u h1 v h2
/-- a round of the reference -/
def RndR (n : Nat) (L : List Int) (l l' : List Nat) : Prop := ∃ C, (if 4 ∈ L then IsClo n PTrans l C else C = l) ∧ (if 5 ∈ L then IsClo n PEucl C l' else l' = C)
/-- what the reference's rounds keep -/
structure RefR (n : Nat) (L : List Int) (r : List Nat) (k : Nat) (l : List Nat) : Prop where
  base : CloR n L r l
  refl : 2 ∈ L → PRefl n l
  one : 1 ≤ k → 5 ∉ L → 4 ∈ L → PTrans l
  eucl : 1 ≤ k → 5 ∈ L → PEucl l
  two : 2 ≤ k → 5 ∈ L → PTrans l
theorem PRefl.up {n : Nat} {l s : List Nat} (h : PRefl n l) (k : Le l s) : PRefl n s := fun w hw => k w w (h w hw)
theorem RefR.next {n : Nat} {L : List Int} {r l l' : List Nat} {k : Nat} (h5 : 5 ∈ L → 4 ∈ L) (h : RefR n L r k l) (hr : RndR n L l l') : RefR n L r (k + 1) l' := by
  obtain ⟨C, h1, h2⟩ := hr
  by_cases e4 : (4 : Int) ∈ L
  · rw [if_pos e4] at h1
    by_cases e5 : (5 : Int) ∈ L
    · rw [if_pos e5] at h2
      refine ⟨⟨h2.sh, h.base.up.trans (h1.up.trans h2.up), fun s hs hc hle => h2.least s hs (hc.2.2 e5) (h1.least s hs (hc.2.1 e4) (h.base.least s hs hc hle))⟩, fun e2 => ((h.refl e2).up h1.up).up h2.up, fun _ k5 => absurd e5 k5, fun _ _ => h2.has, fun hk _ => ?_⟩
      have hC := trans_eucl (h.eucl (by omega) e5) h.base.sh h1
      rw [(h2.fixed h1.sh).2 hC]
      exact h1.has
    · rw [if_neg e5] at h2
      subst h2
      exact ⟨⟨h1.sh, h.base.up.trans h1.up, fun s hs hc hle => h1.least s hs (hc.2.1 e4) (h.base.least s hs hc hle)⟩, fun e2 => (h.refl e2).up h1.up, fun _ _ _ => h1.has, fun _ k5 => absurd k5 e5, fun _ k5 => absurd k5 e5⟩
  · rw [if_neg e4] at h1
    subst h1
    have e5 : (5 : Int) ∉ L := fun k => e4 (h5 k)
    rw [if_neg e5] at h2
    subst h2
    exact ⟨h.base, h.refl, fun _ _ k4 => absurd k4 e4, fun _ k5 => absurd k5 e5, fun _ k5 => absurd k5 e5⟩
theorem RefR.fin {n : Nat} {L : List Int} {r l : List Nat} {k : Nat} (h : RefR n L r k l) (hk : 2 ≤ k) : IsClo n (CloP n L) r l :=
  ⟨h.base.sh, h.base.up, ⟨h.refl, fun e4 => by
    by_cases e5 : (5 : Int) ∈ L
    · exact h.two hk e5
    · exact h.one (by omega) e5 e4, fun e5 => h.eucl (by omega) e5⟩, h.base.least⟩
/-- the start of the reference -/
theorem RefR.start {n : Nat} {L : List Int} {r c : List Nat} (hr : Sh n r) (h : if 2 ∈ L then IsClo n (PRefl n) r c else c = r) : RefR n L r 0 c := by
  by_cases e2 : (2 : Int) ∈ L
  · rw [if_pos e2] at h
    exact ⟨⟨h.sh, h.up, fun s hs hc hle => h.least s hs (hc.1 e2) hle⟩, fun _ => h.has, fun k => absurd k (by omega), fun k => absurd k (by omega), fun k => absurd k (by omega)⟩
  · rw [if_neg e2] at h
    subst h
    exact ⟨CloR.start hr, fun k => absurd k e2, fun k => absurd k (by omega), fun k => absurd k (by omega), fun k => absurd k (by omega)⟩
/-- worlds without successors lead to themselves -/
def serL (l : List Nat) : List Nat := (List.range l.length).map (fun w => if l.getD w 0 = 0 then 2 ^ w else l.getD w 0)
def serIf (L : List Int) (l : List Nat) : List Nat := if 1 ∈ L then serL l else l
theorem serL_sh {n : Nat} {l : List Nat} (h : Sh n l) : Sh n (serL l) := by
  refine ⟨by simp [serL, h.1], fun x hx => ?_⟩
  obtain ⟨w, hw, rfl⟩ := List.mem_map.1 hx
  have hw := List.mem_range.1 hw
  split
  · exact Nat.pow_lt_pow_right (by decide) (by have := h.1; omega)
  · have e : l.getD w 0 = l[w] := by simp [hw]
    rw [e]
    exact h.2 _ (List.getElem_mem hw)
/-- what Close makes of a relation -/
def ClosR (n : Nat) (g : Int) (r c : List Nat) : Prop := ∃ C, IsClo n (CloP n (proL g)) r C ∧ c = serIf (proL g) C
theorem ClosR.unique {n : Nat} {g : Int} {r c d : List Nat} (h : ClosR n g r c) (k : ClosR n g r d) : c = d := by
  obtain ⟨C, h1, rfl⟩ := h
  obtain ⟨D, h2, rfl⟩ := k
  rw [h1.unique h2]
theorem ClosR.sh {n : Nat} {g : Int} {r c : List Nat} (h : ClosR n g r c) : Sh n c := by
  obtain ⟨C, h1, rfl⟩ := h
  unfold serIf
  split
  · exact serL_sh h1.sh
  · exact h1.sh
end Go.Proofs.Ws
/- Layer 15: Properties on both sides. -/
namespace Go.Proofs.YtjpmhbnikoggaaaDoor
open Go.RowKit Go.Proofs.Ws
set_option maxRecDepth 100000
end Go.Proofs.YtjpmhbnikoggaaaDoor
/- Layer 15: hasAll: a relation has all properties of a list. -/
namespace Go.Proofs.YtjpmhbnikoggaaaDoor
open Go.RowKit Go.Proofs.Ws
set_option maxRecDepth 100000
/-- whether a proposition holds -/
noncomputable def qB (Q : Prop) : Bool := @decide Q (Classical.propDecidable Q)
section
variable (l : List Nat) (A : Option Addr) (n c : Nat) (w : World) (hR : Reads w w.heap.size 1 A n (us l)) (hw : Words l) (hm : n ≤ maxLen) (hT : Tab w)
include hR hw hm hT
end
end Go.Proofs.YtjpmhbnikoggaaaDoor
/- Layer 15: Has, check and In by the program. -/
namespace Go.Proofs.YtjpmhbnikoggaaaDoor
open Go.RowKit Go.Proofs.Ws
set_option maxRecDepth 100000
end Go.Proofs.YtjpmhbnikoggaaaDoor
/- Layer 15: closures whose result lies in a block of its own. -/
namespace Go.Proofs.YtjpmhbnikoggaaaDoor
open Go.RowKit Go.Proofs.Ws
set_option maxRecDepth 100000
/-- words in a block of the call's own, padding behind them -/
def OwnL (B : Nat) (W : World) (A : Option Addr) (l : List Nat) : Prop := ∃ g, A = some ⟨g, 0, none⟩ ∧ B ≤ g ∧ HoldsP W g l
theorem OwnL.reads {B : Nat} {W : World} {A : Option Addr} {l : List Nat} {n : Nat} (h : OwnL B W A l) (hl : l.length = n) : Reads W W.heap.size 1 A n (us l) := by
  obtain ⟨g, rfl, _, hH⟩ := h
  have := hH.reads
  rwa [hl] at this
theorem OwnL.below {B : Nat} {W W' : World} {A : Option Addr} {l : List Nat} (h : OwnL B W A l) (hb : Below W.heap.size W W') : OwnL B W' A l := by
  obtain ⟨g, hA, hg, hH⟩ := h
  exact ⟨g, hA, hg, hH.below hb hH.lt⟩
theorem OwnL.mono {B B' : Nat} {W : World} {A : Option Addr} {l : List Nat} (h : OwnL B W A l) (hB : B' ≤ B) : OwnL B' W A l := by
  obtain ⟨g, hA, hg, hH⟩ := h
  exact ⟨g, hA, by omega, hH⟩
theorem OwnL.drewN {B : Nat} {W : World} {A : Option Addr} {l : List Nat} (h : OwnL B W A l) (q : Nat) : OwnL B (W.drewN q) A l := by
  obtain ⟨g, hA, hg, hH⟩ := h
  exact ⟨g, hA, hg, holdsP_drewN hH q⟩
end Go.Proofs.YtjpmhbnikoggaaaDoor
/- Layer 15: extend and closure by the program. -/
namespace Go.Proofs.YtjpmhbnikoggaaaDoor
open Go.RowKit Go.Proofs.Ws
set_option maxRecDepth 100000
end Go.Proofs.YtjpmhbnikoggaaaDoor
/- Layer 15: slices.Contains of ints, addLoops. -/
namespace Go.Proofs.YtjpmhbnikoggaaaDoor
open Go.RowKit Go.Proofs.Ws
set_option maxRecDepth 100000
end Go.Proofs.YtjpmhbnikoggaaaDoor
