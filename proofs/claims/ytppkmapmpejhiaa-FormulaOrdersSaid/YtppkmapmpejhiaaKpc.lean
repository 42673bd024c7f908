/- Layer 5 as plain mathematics: a subtree's canonical list is no longer, and its nodes' operators are the tree's. -/
import Derived.Test.YtppkmapmpejhiaaKpb
namespace Go.Proofs.Ws
open Go
theorem len_sub {α : Type} [DecidableEq α] : ∀ (l m : List α), l.Nodup → (∀ a ∈ l, a ∈ m) → l.length ≤ m.length
  | [], _, _, _ => Nat.zero_le _
  | a :: l, m, h, hs => by
    have ha : a ∈ m := hs a List.mem_cons_self
    have hn := List.nodup_cons.1 h
    have := len_sub l (m.erase a) hn.2 (fun b hb => (List.mem_erase_of_ne (fun e => hn.1 (by rw [← e]; exact hb))).2 (hs b (List.mem_cons_of_mem _ hb)))
    rw [List.length_erase_of_mem ha] at this
    have := List.length_pos_of_mem ha
    simp only [List.length_cons]
    omega
/-- a strict subtree is smaller -/
theorem subT_lt {s t : Tr} (h : subT s t) : s = t ∨ szT s < szT t := by
  cases t with
  | leaf n => exact .inl h
  | un n a =>
    rcases h with h | h
    · exact .inl h
    · have := subT_sz h
      exact .inr (by show szT s < szT a + 1; omega)
  | bin n a b =>
    rcases h with h | h | h
    · exact .inl h
    · have := subT_sz h
      exact .inr (by show szT s < szT a + szT b + 1; omega)
    · have := subT_sz h
      exact .inr (by show szT s < szT a + szT b + 1; omega)
theorem subT_trans {r s : Tr} (h : subT r s) : ∀ {t : Tr}, subT s t → subT r t
  | .leaf n, h2 => by have h2 : s = .leaf n := h2; rw [h2] at h; exact h
  | .un n a, h2 => by
    rcases h2 with h2 | h2
    · rw [h2] at h; exact h
    · exact .inr (subT_trans h h2)
  | .bin n a b, h2 => by
    rcases h2 with h2 | h2 | h2
    · rw [h2] at h; exact h
    · exact .inr (.inl (subT_trans h h2))
    · exact .inr (.inr (subT_trans h h2))
/-- a subtree of a tree that lies in a list lies there -/
theorem rep_sub {o : List Nd} {s : Tr} : ∀ {t : Tr} {k : Nat}, rep o k t → subT s t → ∃ j, rep o j s
  | .leaf n, k, h, h2 => by have h2 : s = .leaf n := h2; rw [h2]; exact ⟨k, h⟩
  | .un n a, k, h, h2 => by
    rcases h2 with h2 | h2
    · rw [h2]; exact ⟨k, h⟩
    · obtain ⟨x, _, h3⟩ := h
      exact rep_sub h3 h2
  | .bin n a b, k, h, h2 => by
    rcases h2 with h2 | h2 | h2
    · rw [h2]; exact ⟨k, h⟩
    · obtain ⟨x, y, _, h3, _⟩ := h
      exact rep_sub h3 h2
    · obtain ⟨x, y, _, _, h3⟩ := h
      exact rep_sub h3 h2
theorem rep_lt {o : List Nd} {k : Nat} {t : Tr} (h : rep o k t) : k < o.length := by
  cases t with
  | leaf n => exact (List.getElem?_eq_some_iff.1 h).1
  | un n a => obtain ⟨x, h, _⟩ := h; exact (List.getElem?_eq_some_iff.1 h).1
  | bin n a b => obtain ⟨x, y, h, _⟩ := h; exact (List.getElem?_eq_some_iff.1 h).1
/-- all trees of a canonical list -/
def treesL (t : Tr) : List Tr := (List.range (canT t).length).map (treeAt (canT t))
theorem treesL_mem {t : Tr} (ht : trOk t) (s : Tr) : s ∈ treesL t ↔ subT s t := by
  unfold treesL
  rw [List.mem_map]
  constructor
  · rintro ⟨k, hk, rfl⟩
    exact canT_sub ht (List.mem_range.1 hk)
  · intro h
    obtain ⟨j, hj⟩ := rep_sub (finT_rep t []) h
    exact ⟨j, List.mem_range.2 (rep_lt hj), rep_tree (canT_ops ht) s j (subT_ok h ht) hj⟩
theorem treesL_nodup {t : Tr} (ht : trOk t) : (treesL t).Nodup := by
  unfold treesL
  rw [List.nodup_iff_pairwise_ne, List.pairwise_map]
  refine List.Pairwise.imp_of_mem ?_ (List.nodup_iff_pairwise_ne.1 List.nodup_range)
  intro i j hi hj hne he
  apply hne
  have hi := List.mem_range.1 hi
  have hj := List.mem_range.1 hj
  have r1 := rep_of_tree (canT_ops ht) (i + 1) i (by omega) hi
  have r2 := rep_of_tree (canT_ops ht) (j + 1) j (by omega) hj
  rw [← he] at r2
  have e1 := finT_old (canT_nodup t) _ i r1
  have e2 := finT_old (canT_nodup t) _ j r2
  rw [e1] at e2
  exact congrArg Prod.fst e2
/-- a subtree's canonical list is shorter, or it is the tree's own -/
theorem canT_len {s t : Tr} (ht : trOk t) (h : subT s t) : s = t ∨ (canT s).length < (canT t).length := by
  rcases subT_lt h with h1 | h1
  · exact .inl h1
  right
  have hs := subT_ok h ht
  have key := len_sub (t :: treesL s) (treesL t)
    (List.nodup_cons.2 ⟨fun hm => by have := subT_sz ((treesL_mem hs t).1 hm); omega, treesL_nodup hs⟩)
    (fun a ha => by
      rcases List.mem_cons.1 ha with rfl | ha
      · exact (treesL_mem ht _).2 (subT_refl _)
      · exact (treesL_mem ht a).2 (subT_trans ((treesL_mem hs a).1 ha) h))
  have e : ∀ r : Tr, (treesL r).length = (canT r).length := fun r => by unfold treesL; rw [List.length_map, List.length_range]
  rw [List.length_cons, e, e] at key
  omega
/-- the operator of a tree -/
def topT : Tr → Int
  | .leaf n => n.op
  | .un n _ => n.op
  | .bin n _ _ => n.op
theorem topT_at {o : List Nd} (ho : opsL o) {k : Nat} (hk : k < o.length) : topT (treeAt o k) = (o.getD k nd0).op := by
  rw [treeAt_eq ho hk]
  split
  · rfl
  · split <;> rfl
/-- each operator of a subtree's list is one of the tree's list -/
theorem canT_op {s t : Tr} (ht : trOk t) (h : subT s t) {n : Nd} (hn : n ∈ canT s) : ∃ m ∈ canT t, m.op = n.op := by
  have hs := subT_ok h ht
  obtain ⟨k, hk, rfl⟩ := List.getElem_of_mem hn
  have h1 := canT_sub hs hk
  have h2 := (treesL_mem ht _).2 (subT_trans h1 h)
  unfold treesL at h2
  obtain ⟨j, hj, he⟩ := List.mem_map.1 h2
  have hj := List.mem_range.1 hj
  have e1 := topT_at (canT_ops ht) hj
  have e2 := topT_at (canT_ops hs) hk
  rw [he, e2] at e1
  refine ⟨(canT t)[j], List.getElem_mem hj, ?_⟩
  rw [List.getD_eq_getElem?_getD, List.getElem?_eq_getElem hk, List.getD_eq_getElem?_getD, List.getElem?_eq_getElem hj] at e1
  exact e1.symm
end Go.Proofs.Ws
