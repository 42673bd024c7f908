/- Layer 3: Split, by the program: mathematics of first places and of the map. -/
import Derived.Test.YtichhbnpdhfimaaDoorPf
namespace Go.Proofs.YtichhbnpdhfimaaDoor
open Go.RowKit Go.Proofs.Ws Go.Maps
def sameAt (a b : List Int) (i j : Nat) : Bool := decide (a.getD j 0 = a.getD i 0) && decide (b.getD j 0 = b.getD i 0)
/-- the first place with the same two numbers -/
def firstAt (a b : List Int) (i : Nat) : Nat := ((List.range (i + 1)).find? (sameAt a b i)).getD i
theorem sameAt_iff (a b : List Int) (i j : Nat) : sameAt a b i j = true ↔ a.getD j 0 = a.getD i 0 ∧ b.getD j 0 = b.getD i 0 := by simp [sameAt]
theorem sameAt_self (a b : List Int) (i : Nat) : sameAt a b i i = true := by simp [sameAt]
theorem firstAt_spec (a b : List Int) (i : Nat) : sameAt a b i (firstAt a b i) = true ∧ firstAt a b i ≤ i ∧ ∀ j, j < firstAt a b i → sameAt a b i j = false := by
  unfold firstAt
  cases h : (List.range (i + 1)).find? (sameAt a b i) with
  | none =>
    have := List.find?_eq_none.1 h i (List.mem_range.2 (by omega))
    rw [sameAt_self] at this
    exact absurd rfl this
  | some k =>
    obtain ⟨h1, h2, h3⟩ := List.find?_range_eq_some.1 h
    refine ⟨h1, ?_, fun j hj => ?_⟩
    · have := List.mem_range.1 h2
      show k ≤ i
      omega
    · have := h3 j hj
      simpa using this
theorem firstAt_unique (a b : List Int) (i k : Nat) (h1 : sameAt a b i k = true) (h2 : ∀ j, j < k → sameAt a b i j = false) : firstAt a b i = k := by
  obtain ⟨s1, _, s3⟩ := firstAt_spec a b i
  rcases Nat.lt_trichotomy (firstAt a b i) k with h | h | h
  · rw [h2 _ h] at s1; cases s1
  · exact h
  · rw [s3 _ h] at h1; cases h1
theorem sameAt_trans {a b : List Int} {i k j : Nat} (h1 : sameAt a b i k = true) : sameAt a b i j = sameAt a b k j := by
  rw [sameAt_iff] at h1
  unfold sameAt
  rw [h1.1, h1.2]
def WFs (l : List Int) : Prop := ∀ i, (Lit.int .i64 (l.getD i 0)).wf = true
theorem keyL_inj {x y x' y' : Int} (wx : (Lit.int .i64 x).wf = true) (wy : (Lit.int .i64 y).wf = true) (wx' : (Lit.int .i64 x').wf = true) (wy' : (Lit.int .i64 y').wf = true) (h : keyL x y = keyL x' y') : x = x' ∧ y = y' := by
  have := partLaw.inj (key_at wx wy) (by rw [h]; exact key_at wx' wy')
  injection this with h1
  simp at h1
  exact h1
/-- what the map holds after k rounds -/
structure MapIs (a b : List Int) (k : Nat) (D : DataW Unit) : Prop where
  map : IsMap D
  there : ∀ i, Maps.has D (keyL (a.getD i 0) (b.getD i 0)) = true ↔ ∃ j, j < k ∧ sameAt a b i j = true
  at_ : ∀ i j, j < k → sameAt a b i j = true → D.atKey (keyL (a.getD i 0) (b.getD i 0)) (.lit (.int .i64 0)) = .lit (.int .i64 (firstAt a b i : Int))
theorem MapIs.start (a b : List Int) : MapIs a b 0 (.map []) where
  map := ⟨[], rfl⟩
  there := fun i => ⟨fun h => by simp [Maps.has] at h, fun ⟨j, hj, _⟩ => absurd hj (by omega)⟩
  at_ := fun i j hj => absurd hj (by omega)
section
variable {a b : List Int} {k : Nat} {D : DataW Unit}
theorem MapIs.old (h : MapIs a b k D) (ho : ∃ j, j < k ∧ sameAt a b k j = true) : MapIs a b (k + 1) D where
  map := h.map
  there := fun i => by
    rw [h.there i]
    constructor
    · rintro ⟨j, hj, hs⟩; exact ⟨j, by omega, hs⟩
    · rintro ⟨j, hj, hs⟩
      by_cases e : j = k
      · subst e
        obtain ⟨j', hj', hs'⟩ := ho
        exact ⟨j', hj', by rw [sameAt_trans hs]; exact hs'⟩
      · exact ⟨j, by omega, hs⟩
  at_ := fun i j hj hs => by
    by_cases e : j = k
    · subst e
      obtain ⟨j', hj', hs'⟩ := ho
      exact h.at_ i j' hj' (by rw [sameAt_trans hs]; exact hs')
    · exact h.at_ i j (by omega) hs
theorem MapIs.new (wa : WFs a) (wb : WFs b) (h : MapIs a b k D) (ho : ¬ ∃ j, j < k ∧ sameAt a b k j = true) : MapIs a b (k + 1) (D.put (keyL (a.getD k 0) (b.getD k 0)) (.lit (.int .i64 (k : Int)))) := by
  have hkey : WideAt.IsKeyLit (keyL (a.getD k 0) (b.getD k 0)) := partLaw.key (key_at (wa k) (wb k))
  have hne : ∀ i, sameAt a b i k = false → keyL (a.getD i 0) (b.getD i 0) ≠ keyL (a.getD k 0) (b.getD k 0) := fun i hs e => by
    have := keyL_inj (wa i) (wb i) (wa k) (wb k) e
    rw [(sameAt_iff a b i k).2 ⟨this.1.symm, this.2.symm⟩] at hs
    cases hs
  have heq : ∀ i, sameAt a b i k = true → keyL (a.getD i 0) (b.getD i 0) = keyL (a.getD k 0) (b.getD k 0) := fun i hs => by
    have := (sameAt_iff a b i k).1 hs
    rw [this.1, this.2]
  refine ⟨h.map.put _ _, fun i => ?_, fun i j hj hs => ?_⟩
  · cases hs : sameAt a b i k
    · rw [has_put_other (hne i hs), h.there i]
      constructor
      · rintro ⟨j, hj, hs'⟩; exact ⟨j, by omega, hs'⟩
      · rintro ⟨j, hj, hs'⟩
        by_cases e : j = k
        · subst e; rw [hs] at hs'; cases hs'
        · exact ⟨j, by omega, hs'⟩
    · rw [heq i hs, has_put_same h.map hkey]
      exact ⟨fun _ => ⟨k, by omega, hs⟩, fun _ => rfl⟩
  · cases hk : sameAt a b i k
    · rw [atKey_put_other (hne i hk)]
      have : j ≠ k := fun e => by subst e; rw [hk] at hs; cases hs
      exact h.at_ i j (by omega) hs
    · rw [heq i hk, atKey_put_same h.map hkey, firstAt_unique a b i k hk (fun j' hj' => by
        cases h' : sameAt a b i j'
        · rfl
        · exact absurd ⟨j', hj', by rw [← sameAt_trans hk]; exact h'⟩ ho)]
end
end Go.Proofs.YtichhbnpdhfimaaDoor
