/- Mathematics of Join: roots of a forest; the finest partition that both refine. -/
import Derived.Test.YtichhbnpdhfimaaDoorPi
namespace Go.Proofs.YtichhbnpdhfimaaDoor
open Go.RowKit Go.Proofs.Ws
/-- the root of a point: follow p while it goes down -/
def root (p : Nat → Nat) (i : Nat) : Nat := if _h : p i < i then root p (p i) else i
termination_by i
theorem root_down {p : Nat → Nat} {i : Nat} (h : p i < i) : root p i = root p (p i) := by rw [root, dif_pos h]
theorem root_top {p : Nat → Nat} {i : Nat} (h : ¬ p i < i) : root p i = i := by rw [root, dif_neg h]
theorem root_le {p : Nat → Nat} (_hp : ∀ i, p i ≤ i) : ∀ i, root p i ≤ i := fun i => by
  induction i using Nat.strongRecOn with
  | ind i ih =>
    by_cases h : p i < i
    · rw [root_down h]
      have := ih _ h
      omega
    · rw [root_top h]; exact Nat.le_refl _
theorem root_of_fix {p : Nat → Nat} (_hp : ∀ i, p i ≤ i) {i : Nat} (h : p i = i) : root p i = i := root_top (by omega)
section
variable {p : Nat → Nat} (hp : ∀ i, p i ≤ i)
include hp
theorem root_fix : ∀ i, p (root p i) = root p i := fun i => by
  induction i using Nat.strongRecOn with
  | ind i ih =>
    by_cases h : p i < i
    · rw [root_down h]; exact ih _ h
    · rw [root_top h]; have := hp i; omega
theorem root_root (i : Nat) : root p (root p i) = root p i := root_of_fix hp (root_fix hp i)
theorem root_step (i : Nat) : root p (p i) = root p i := by
  by_cases h : p i < i
  · rw [root_down h]
  · have : p i = i := by have := hp i; omega
    rw [this]
/-- two roots are joined -/
theorem root_join {m M : Nat} (hm : p m = m) (hM : p M = M) (hmM : m ≤ M) :
    ∀ i, root (fun i => if i = M then m else p i) i = if root p i = M then m else root p i := by
  have hp' : ∀ i, (fun i => if i = M then m else p i) i ≤ i := fun i => by
    show (if i = M then m else p i) ≤ i
    split
    · omega
    · exact hp i
  intro i
  induction i using Nat.strongRecOn with
  | ind i ih =>
    by_cases e : i = M
    · subst e
      rw [root_of_fix hp hM, if_pos rfl]
      by_cases h : m < i
      · rw [root_down (p := fun j => if j = i then m else p j) (by show (if i = i then m else p i) < i; rw [if_pos rfl]; exact h)]
        show root _ (if i = i then m else p i) = m
        rw [if_pos rfl]
        have := ih m h
        rw [root_of_fix hp hm] at this
        rw [this]
        rw [if_neg (by omega)]
      · have : m = i := by omega
        subst this
        exact root_top (by show ¬ (if m = m then m else p m) < m; rw [if_pos rfl]; omega)
    · by_cases h : p i < i
      · rw [root_down (p := fun j => if j = M then m else p j) (by show (if i = M then m else p i) < i; rw [if_neg e]; exact h), root_down h]
        show root _ (if i = M then m else p i) = _
        rw [if_neg e]
        exact ih _ h
      · have hi : p i = i := by have := hp i; omega
        rw [root_of_fix hp hi, if_neg e]
        exact root_top (by show ¬ (if i = M then m else p i) < i; rw [if_neg e]; omega)
/-- a point that leads to its root at once: the roots are the same -/
theorem root_short (k : Nat) : ∀ i, root (fun i => if i = k then root p k else p i) i = root p i := by
  have hk := root_le hp k
  intro i
  induction i using Nat.strongRecOn with
  | ind i ih =>
    by_cases e : i = k
    · subst e
      by_cases h : root p i < i
      · rw [root_down (p := fun j => if j = i then root p i else p j) (by show (if i = i then root p i else p i) < i; rw [if_pos rfl]; exact h)]
        show root _ (if i = i then root p i else p i) = _
        rw [if_pos rfl, ih _ h, root_root hp]
      · have : root p i = i := by omega
        rw [this]
        exact root_top (by show ¬ (if i = i then i else p i) < i; rw [if_pos rfl]; omega)
    · by_cases h : p i < i
      · rw [root_down (p := fun j => if j = k then root p k else p j) (by show (if i = k then root p k else p i) < i; rw [if_neg e]; exact h), root_down h]
        show root _ (if i = k then root p k else p i) = _
        rw [if_neg e]
        exact ih _ h
      · have hi : p i = i := by have := hp i; omega
        rw [root_of_fix hp hi]
        exact root_top (by show ¬ (if i = k then root p k else p i) < i; rw [if_neg e]; omega)
end
/-- the forest of a list of numbers -/
def fo (l : List Int) (i : Nat) : Nat := if i < l.length then (l.getD i 0).toNat else i
/-- each number points down -/
def Forest (l : List Int) : Prop := ∀ i, i < l.length → ∃ y : Nat, l.getD i 0 = (y : Int) ∧ y ≤ i
theorem Forest.le {l : List Int} (h : Forest l) (i : Nat) : fo l i ≤ i := by
  unfold fo
  split
  · rename_i hi
    obtain ⟨y, hy, hle⟩ := h i hi
    rw [hy]; simpa using hle
  · exact Nat.le_refl _
theorem Forest.at_ {l : List Int} (h : Forest l) {i : Nat} (hi : i < l.length) : l.getD i 0 = (fo l i : Int) := by
  obtain ⟨y, hy, _⟩ := h i hi
  unfold fo
  rw [if_pos hi, hy]; simp
theorem fo_set (l : List Int) (k : Nat) (v : Nat) (hk : k < l.length) : fo (l.set k (v : Int)) = fun i => if i = k then v else fo l i := by
  funext i
  unfold fo
  rw [List.length_set]
  by_cases e : i = k
  · subst e
    rw [if_pos hk, if_pos rfl, List.getD_eq_getElem?_getD, List.getElem?_set_self hk]; simp
  · rw [if_neg e, List.getD_eq_getElem?_getD, List.getElem?_set_ne (fun h => e h.symm), ← List.getD_eq_getElem?_getD]
theorem Forest.set {l : List Int} (h : Forest l) {k v : Nat} (hv : v ≤ k) : Forest (l.set k (v : Int)) := fun i hi => by
  rw [List.length_set] at hi
  by_cases e : i = k
  · subst e
    exact ⟨v, by rw [List.getD_eq_getElem?_getD, List.getElem?_set_self hi]; rfl, hv⟩
  · obtain ⟨y, hy, hle⟩ := h i hi
    exact ⟨y, by rw [List.getD_eq_getElem?_getD, List.getElem?_set_ne (fun h => e h.symm), ← List.getD_eq_getElem?_getD]; exact hy, hle⟩
theorem part_forest {l : List Int} (h : partErr l = 0) : Forest l := fun i hi => by
  obtain ⟨_, hp⟩ := part_of rfl h
  obtain ⟨y, h1, h2, _⟩ := hp i hi
  exact ⟨y, h1, h2⟩
theorem part_root {l : List Int} (h : partErr l = 0) (i : Nat) : root (fo l) i = fo l i := by
  have hf := part_forest h
  have hfix : fo l (fo l i) = fo l i := by
    by_cases hi : i < l.length
    · obtain ⟨_, hp⟩ := part_of rfl h
      obtain ⟨y, h1, h2, h3⟩ := hp i hi
      have e : fo l i = y := by unfold fo; rw [if_pos hi, h1]; simp
      rw [e]
      unfold fo
      rw [if_pos (by omega), h3]; simp
    · have e : fo l i = i := by unfold fo; rw [if_neg hi]
      rw [e, e]
  rw [← root_step hf.le, root_of_fix hf.le hfix]
/-- Join after k rounds: roots are the finest partition that a and the first k pairs of b give -/
structure JInv (a b : List Int) (n k : Nat) (l : List Int) : Prop where
  len : l.length = n
  forest : Forest l
  ea : ∀ i, i < n → root (fo l) (fo a i) = root (fo l) i
  eb : ∀ i, i < k → root (fo l) (fo b i) = root (fo l) i
  least : ∀ f : Nat → Nat, (∀ i, f (fo a i) = f i) → (∀ i, f (fo b i) = f i) → ∀ i, f (fo l i) = f i
theorem root_const {p : Nat → Nat} (f : Nat → Nat) (h : ∀ i, f (p i) = f i) : ∀ i, f (root p i) = f i := fun i => by
  induction i using Nat.strongRecOn with
  | ind i ih =>
    by_cases hi : p i < i
    · rw [root_down hi, ih _ hi, h]
    · rw [root_top hi]
theorem JInv.start {a : List Int} (b : List Int) {n : Nat} (hl : a.length = n) (ha : partErr a = 0) : JInv a b n 0 a where
  len := hl
  forest := part_forest ha
  ea := fun i _ => root_step (part_forest ha).le i
  eb := fun i hi => absurd hi (by omega)
  least := fun _ h _ => h
theorem fo_lt {l : List Int} (h : Forest l) {n i : Nat} (hi : i < n) : fo l i < n := Nat.lt_of_le_of_lt (h.le i) hi
/-- one pair of b -/
theorem JInv.join {a b : List Int} {n k : Nat} {l : List Int} (h : JInv a b n k l) (_hb : Forest b) (hk : k < n) (m M : Nat)
    (hmM : (m = root (fo l) k ∧ M = root (fo l) (fo b k) ∧ m ≤ M) ∨ (m = root (fo l) (fo b k) ∧ M = root (fo l) k ∧ m ≤ M)) : JInv a b n (k + 1) (l.set M (m : Int)) := by
  have hle := h.forest.le
  have hM : M < n := by
    rcases hmM with ⟨_, h2, _⟩ | ⟨_, h2, _⟩
    · rw [h2]; exact Nat.lt_of_le_of_lt (root_le hle _) (fo_lt _hb hk)
    · rw [h2]; exact Nat.lt_of_le_of_lt (root_le hle _) hk
  have hmf : fo l m = m := by rcases hmM with ⟨h1, _⟩ | ⟨h1, _⟩ <;> (rw [h1]; exact root_fix hle _)
  have hMf : fo l M = M := by rcases hmM with ⟨_, h1, _⟩ | ⟨_, h1, _⟩ <;> (rw [h1]; exact root_fix hle _)
  have hmle : m ≤ M := by rcases hmM with ⟨_, _, h1⟩ | ⟨_, _, h1⟩ <;> exact h1
  have e := fo_set l M m (by rw [h.len]; exact hM)
  have hr := root_join hle hmf hMf hmle
  have same : ∀ i j, root (fo l) i = root (fo l) j → root (fo (l.set M (m : Int))) i = root (fo (l.set M (m : Int))) j := fun i j hij => by
    rw [e, hr, hr, hij]
  refine ⟨by rw [List.length_set]; exact h.len, h.forest.set hmle, fun i hi => same _ _ (h.ea i hi), fun i hi => ?_, fun f hfa hfb i => ?_⟩
  · by_cases ei : i = k
    · subst ei
      rw [e, hr, hr]
      rcases hmM with ⟨h1, h2, _⟩ | ⟨h1, h2, _⟩
      · rw [← h1, ← h2, if_pos rfl]; split <;> rfl
      · rw [← h1, ← h2, if_pos rfl]; split <;> rfl
    · exact same _ _ (h.eb i (by omega))
  · rw [e]
    show f (if i = M then m else fo l i) = f i
    split
    · rename_i ei
      subst ei
      have hc := root_const f (h.least f hfa hfb)
      rcases hmM with ⟨h1, h2, _⟩ | ⟨h1, h2, _⟩
      · rw [h1, h2, hc, hc, hfb]
      · rw [h1, h2, hc, hc, hfb]
    · exact h.least f hfa hfb i
/-- what Join's answer is -/
def rootL (l : List Int) (n : Nat) : List Int := (List.range n).map (fun i => (root (fo l) i : Int))
def halfL (l : List Int) (n k : Nat) : List Int := (List.range n).map (fun i => if i < k then (root (fo l) i : Int) else l.getD i 0)
theorem halfL_len (l : List Int) (n k : Nat) : (halfL l n k).length = n := by simp [halfL]
theorem halfL_getD (l : List Int) (n k i : Nat) (h : i < n) : (halfL l n k).getD i 0 = if i < k then (root (fo l) i : Int) else l.getD i 0 := by
  unfold halfL; rw [List.getD_eq_getElem?_getD, List.getElem?_map, List.getElem?_range h]; rfl
theorem halfL_zero {l : List Int} {n : Nat} (h : l.length = n) : halfL l n 0 = l := by
  apply List.ext_getElem
  · rw [halfL_len, h]
  · intro i h1 h2
    simp [halfL, List.getElem?_eq_getElem h2]
theorem halfL_forest {l : List Int} (hf : Forest l) {n : Nat} (h : l.length = n) (k : Nat) : Forest (halfL l n k) := fun i hi => by
  rw [halfL_len] at hi
  rw [halfL_getD _ _ _ _ hi]
  split
  · exact ⟨_, rfl, root_le hf.le i⟩
  · exact hf i (by omega)
theorem halfL_set (l : List Int) (n k : Nat) : (halfL l n k).set k (root (fo l) k : Int) = halfL l n (k + 1) := by
  apply List.ext_getElem
  · simp [halfL]
  · intro i h1 h2
    rw [List.getElem_set]
    simp only [halfL, List.getElem_map, List.getElem_range]
    split
    · rename_i e; subst e; rw [if_pos (by omega)]
    · rename_i e
      by_cases h : i < k
      · rw [if_pos h, if_pos (by omega)]
      · rw [if_neg h, if_neg (by omega)]
theorem halfL_root {l : List Int} (hf : Forest l) {n : Nat} (h : l.length = n) : ∀ k, k ≤ n → ∀ i, root (fo (halfL l n k)) i = root (fo l) i
  | 0, _, i => by rw [halfL_zero h]
  | k + 1, hk, i => by
    have ih := halfL_root hf h k (by omega)
    rw [← halfL_set, ← ih k, fo_set _ _ _ (by rw [halfL_len]; omega), root_short (halfL_forest hf h k).le, ih]
theorem halfL_full (l : List Int) (n : Nat) : halfL l n n = rootL l n := by
  unfold halfL rootL
  exact List.map_congr_left (fun i hi => by rw [if_pos (List.mem_range.1 hi)])
end Go.Proofs.YtichhbnpdhfimaaDoor
