/- Layer 5 as plain mathematics: the canonical list ends with its root, stands for its tree, and holds its subtrees. -/
import Derived.Test.YtppkmapmpejhiaaKp
namespace Go.Proofs.Ws
open Go
def szT : Tr → Nat
  | .leaf _ => 1
  | .un _ a => szT a + 1
  | .bin _ a b => szT a + szT b + 1
/-- a tree within a tree -/
def subT (s : Tr) : Tr → Prop
  | .leaf n => s = .leaf n
  | .un n a => s = .un n a ∨ subT s a
  | .bin n a b => s = .bin n a b ∨ subT s a ∨ subT s b
theorem subT_refl (t : Tr) : subT t t := by
  cases t with
  | leaf n => exact rfl
  | un n a => exact .inl rfl
  | bin n a b => exact .inl rfl
theorem subT_sz {s : Tr} : ∀ {t : Tr}, subT s t → szT s ≤ szT t
  | .leaf n, h => by have h : s = .leaf n := h; rw [h]; exact Nat.le_refl _
  | .un n a, h => by
    rcases h with h | h
    · rw [h]; exact Nat.le_refl _
    · have := subT_sz h
      show szT s ≤ szT a + 1
      omega
  | .bin n a b, h => by
    rcases h with h | h | h
    · rw [h]; exact Nat.le_refl _
    · have := subT_sz h
      show szT s ≤ szT a + szT b + 1
      omega
    · have := subT_sz h
      show szT s ≤ szT a + szT b + 1
      omega
theorem subT_ok {s : Tr} : ∀ {t : Tr}, subT s t → trOk t → trOk s
  | .leaf n, h, hk => by have h : s = .leaf n := h; rw [h]; exact hk
  | .un n a, h, hk => by
    rcases h with h | h
    · rw [h]; exact hk
    · exact subT_ok h hk.2.2.2
  | .bin n a b, h, hk => by
    rcases h with h | h | h
    · rw [h]; exact hk
    · exact subT_ok h hk.2.2.2.1
    · exact subT_ok h hk.2.2.2.2
/-- what is put new stands for a tree within the tree -/
theorem finT_sub : ∀ (t : Tr) (o : List Nd) (k : Nat), o.length ≤ k → k < (finT t o).2.length → ∃ s, rep (finT t o).2 k s ∧ subT s t
  | .leaf n, o, k, h1, h2 => by
    have hl := putNd_len o n
    have e2 : (finT (.leaf n) o) = putNd o n := rfl
    rw [e2] at h2 ⊢
    have hk : k = (putNd o n).1 := by
      unfold putNd at h2 ⊢
      split
      · rename_i hm
        rw [if_pos hm] at h2
        have h2 : k < o.length := h2
        omega
      · rename_i hm
        rw [if_neg hm] at h2
        have h2 : k < (o ++ [n]).length := h2
        rw [List.length_append] at h2
        have h2 : k < o.length + 1 := h2
        show k = o.length
        omega
    rw [hk]
    exact ⟨.leaf n, putNd_at o n, rfl⟩
  | .un n a, o, k, h1, h2 => by
    have ih := finT_sub a o
    have e2 : (finT (.un n a) o) = putNd (finT a o).2 { n with x := ((finT a o).1 : Int) } := rfl
    have hrep := finT_rep (.un n a) o
    have hpre := putNd_pre (finT a o).2 { n with x := ((finT a o).1 : Int) }
    by_cases hk : k < (finT a o).2.length
    · obtain ⟨s, h3, h4⟩ := ih k h1 hk
      exact ⟨s, by rw [e2]; exact rep_mono hpre s k h3, .inr h4⟩
    · refine ⟨.un n a, ?_, .inl rfl⟩
      have hk2 : k = (finT (.un n a) o).1 := by
        rw [e2] at h2 ⊢
        unfold putNd at h2 ⊢
        split
        · rename_i hm
          rw [if_pos hm] at h2
          exact absurd h2 hk
        · rename_i hm
          rw [if_neg hm] at h2
          have h2 : k < ((finT a o).2 ++ [_]).length := h2
          rw [List.length_append] at h2
          have h2 : k < (finT a o).2.length + 1 := h2
          show k = (finT a o).2.length
          omega
      rw [hk2]; exact hrep
  | .bin n a b, o, k, h1, h2 => by
    have iha := finT_sub a o
    have ihb := finT_sub b (finT a o).2
    have e2 : (finT (.bin n a b) o) = putNd (finT b (finT a o).2).2 { n with x := ((finT a o).1 : Int), y := ((finT b (finT a o).2).1 : Int) } := rfl
    have hrep := finT_rep (.bin n a b) o
    have hpre := putNd_pre (finT b (finT a o).2).2 { n with x := ((finT a o).1 : Int), y := ((finT b (finT a o).2).1 : Int) }
    by_cases hk : k < (finT b (finT a o).2).2.length
    · by_cases hka : k < (finT a o).2.length
      · obtain ⟨s, h3, h4⟩ := iha k h1 hka
        exact ⟨s, by rw [e2]; exact rep_mono hpre s k (rep_mono (finT_pre b _) s k h3), .inr (.inl h4)⟩
      · obtain ⟨s, h3, h4⟩ := ihb k (by omega) hk
        exact ⟨s, by rw [e2]; exact rep_mono hpre s k h3, .inr (.inr h4)⟩
    · refine ⟨.bin n a b, ?_, .inl rfl⟩
      have hk2 : k = (finT (.bin n a b) o).1 := by
        rw [e2] at h2 ⊢
        unfold putNd at h2 ⊢
        split
        · rename_i hm
          rw [if_pos hm] at h2
          exact absurd h2 hk
        · rename_i hm
          rw [if_neg hm] at h2
          have h2 : k < ((finT b (finT a o).2).2 ++ [_]).length := h2
          rw [List.length_append] at h2
          have h2 : k < (finT b (finT a o).2).2.length + 1 := h2
          show k = (finT b (finT a o).2).2.length
          omega
      rw [hk2]; exact hrep
/-- each node of a canonical list stands for a subtree -/
theorem canT_sub {t : Tr} (ht : trOk t) {k : Nat} (hk : k < (canT t).length) : subT (treeAt (canT t) k) t := by
  obtain ⟨s, h1, h2⟩ := finT_sub t [] k (Nat.zero_le _) hk
  have := rep_tree (canT_ops ht) s k (subT_ok h2 ht) h1
  rw [this]; exact h2
/-- the root is the last node -/
theorem canT_last {t : Tr} (ht : trOk t) : (finT t []).1 = (canT t).length - 1 := by
  have key : ∀ (o : List Nd) (m : Nd), finT t [] = putNd o m → (∀ k, k < o.length → ∃ s, rep o k s ∧ trOk s ∧ szT s < szT t) → opsL o → (finT t []).1 = (canT t).length - 1 := by
    intro o m he hs ho
    unfold canT
    rw [he]
    rcases putNd_lastOr o m with hm | h
    · exfalso
      have hrep := finT_rep t []
      rw [he] at hrep
      have e : putNd o m = (o.idxOf m, o) := by unfold putNd; rw [if_pos hm]
      rw [e] at hrep
      have hk : o.idxOf m < o.length := List.idxOf_lt_length_of_mem hm
      obtain ⟨s, h1, h2, h3⟩ := hs _ hk
      have t1 := rep_tree ho s _ h2 h1
      have t2 := rep_tree ho t _ ht hrep
      rw [t1] at t2
      rw [t2] at h3
      omega
    · exact h
  cases t with
  | leaf n =>
    exact key [] n rfl (fun k hk => absurd hk (by simp)) (fun i hi => absurd hi (by simp))
  | un n a =>
    have ha : trOk a := ht.2.2.2
    refine key (finT a []).2 _ rfl (fun k hk => ?_) (canT_ops ha)
    obtain ⟨s, h1, h2⟩ := finT_sub a [] k (Nat.zero_le _) hk
    have := subT_sz h2
    exact ⟨s, h1, subT_ok h2 ha, by show szT s < szT a + 1; omega⟩
  | bin n a b =>
    have ha : trOk a := ht.2.2.2.1
    have hb : trOk b := ht.2.2.2.2
    refine key (finT b (finT a []).2).2 _ rfl (fun k hk => ?_) (finT_ops b hb (canT_ops ha))
    by_cases hka : k < (finT a []).2.length
    · obtain ⟨s, h1, h2⟩ := finT_sub a [] k (Nat.zero_le _) hka
      have := subT_sz h2
      exact ⟨s, rep_mono (finT_pre b _) s k h1, subT_ok h2 ha, by show szT s < szT a + szT b + 1; omega⟩
    · obtain ⟨s, h1, h2⟩ := finT_sub b (finT a []).2 k (by omega) hk
      have := subT_sz h2
      exact ⟨s, h1, subT_ok h2 hb, by show szT s < szT a + szT b + 1; omega⟩
/-- the canonical list stands for the tree -/
theorem canT_tree {t : Tr} (ht : trOk t) : treeAt (canT t) ((canT t).length - 1) = t := by
  have h := finT_rep t []
  rw [canT_last ht] at h
  exact rep_tree (canT_ops ht) t _ ht h
theorem canT_inj {t s : Tr} (ht : trOk t) (hs : trOk s) (h : canT t = canT s) : t = s := by
  rw [← canT_tree ht, ← canT_tree hs, h]
theorem canT_ne (t : Tr) : canT t ≠ [] := fun e => by have := finT_lt t []; unfold canT at e; rw [e] at this; simp at this
/-- the canonical list of a canonical list is itself -/
theorem canonF_canT {t : Tr} (ht : trOk t) : canonF (canT t) = canT t := by
  rw [canonF_tree (canT_ops ht) (canT_ne t), canT_tree ht]
end Go.Proofs.Ws
