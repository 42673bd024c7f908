/- Layer 5 as plain mathematics: subtrees, which nodes are used, lengths of canonical lists. -/
import Derived.Test.YtcbmncafmofcpaaKp
namespace Go.Proofs.Ws
open Go
def szT : Tr → Nat
  | .leaf _ => 1
  | .un _ a => szT a + 1
  | .bin _ a b => szT a + szT b + 1
/-- a tree within a tree -/
def subT (s : Tr) : Tr → Prop
  | .leaf n => s = .leaf n
  | .un n a => s = .un n a ∨ subT s a
  | .bin n a b => s = .bin n a b ∨ subT s a ∨ subT s b
theorem subT_refl (t : Tr) : subT t t := by
  cases t with
  | leaf n => exact rfl
  | un n a => exact .inl rfl
  | bin n a b => exact .inl rfl
theorem subT_sz {s : Tr} : ∀ {t : Tr}, subT s t → szT s ≤ szT t
  | .leaf n, h => by have h : s = .leaf n := h; rw [h]; exact Nat.le_refl _
  | .un n a, h => by
    rcases h with h | h
    · rw [h]; exact Nat.le_refl _
    · have := subT_sz h
      show szT s ≤ szT a + 1
      omega
  | .bin n a b, h => by
    rcases h with h | h | h
    · rw [h]; exact Nat.le_refl _
    · have := subT_sz h
      show szT s ≤ szT a + szT b + 1
      omega
    · have := subT_sz h
      show szT s ≤ szT a + szT b + 1
      omega
theorem subT_ok {s : Tr} : ∀ {t : Tr}, subT s t → trOk t → trOk s
  | .leaf n, h, hk => by have h : s = .leaf n := h; rw [h]; exact hk
  | .un n a, h, hk => by
    rcases h with h | h
    · rw [h]; exact hk
    · exact subT_ok h hk.2.2.2
  | .bin n a b, h, hk => by
    rcases h with h | h | h
    · rw [h]; exact hk
    · exact subT_ok h hk.2.2.2.1
    · exact subT_ok h hk.2.2.2.2
/-- what is put new stands for a tree within the tree -/
theorem finT_sub : ∀ (t : Tr) (o : List Nd) (k : Nat), o.length ≤ k → k < (finT t o).2.length → ∃ s, rep (finT t o).2 k s ∧ subT s t
  | .leaf n, o, k, h1, h2 => by
    have hl := putNd_len o n
    have e2 : (finT (.leaf n) o) = putNd o n := rfl
    rw [e2] at h2 ⊢
    have hk : k = (putNd o n).1 := by
      unfold putNd at h2 ⊢
      split
      · rename_i hm
        rw [if_pos hm] at h2
        have h2 : k < o.length := h2
        omega
      · rename_i hm
        rw [if_neg hm] at h2
        have h2 : k < (o ++ [n]).length := h2
        rw [List.length_append] at h2
        have h2 : k < o.length + 1 := h2
        show k = o.length
        omega
    rw [hk]
    exact ⟨.leaf n, putNd_at o n, rfl⟩
  | .un n a, o, k, h1, h2 => by
    have ih := finT_sub a o
    have e2 : (finT (.un n a) o) = putNd (finT a o).2 { n with x := ((finT a o).1 : Int) } := rfl
    have hrep := finT_rep (.un n a) o
    have hpre := putNd_pre (finT a o).2 { n with x := ((finT a o).1 : Int) }
    by_cases hk : k < (finT a o).2.length
    · obtain ⟨s, h3, h4⟩ := ih k h1 hk
      exact ⟨s, by rw [e2]; exact rep_mono hpre s k h3, .inr h4⟩
    · refine ⟨.un n a, ?_, .inl rfl⟩
      have hk2 : k = (finT (.un n a) o).1 := by
        rw [e2] at h2 ⊢
        unfold putNd at h2 ⊢
        split
        · rename_i hm
          rw [if_pos hm] at h2
          exact absurd h2 hk
        · rename_i hm
          rw [if_neg hm] at h2
          have h2 : k < ((finT a o).2 ++ [_]).length := h2
          rw [List.length_append] at h2
          have h2 : k < (finT a o).2.length + 1 := h2
          show k = (finT a o).2.length
          omega
      rw [hk2]; exact hrep
  | .bin n a b, o, k, h1, h2 => by
    have iha := finT_sub a o
    have ihb := finT_sub b (finT a o).2
    have e2 : (finT (.bin n a b) o) = putNd (finT b (finT a o).2).2 { n with x := ((finT a o).1 : Int), y := ((finT b (finT a o).2).1 : Int) } := rfl
    have hrep := finT_rep (.bin n a b) o
    have hpre := putNd_pre (finT b (finT a o).2).2 { n with x := ((finT a o).1 : Int), y := ((finT b (finT a o).2).1 : Int) }
    by_cases hk : k < (finT b (finT a o).2).2.length
    · by_cases hka : k < (finT a o).2.length
      · obtain ⟨s, h3, h4⟩ := iha k h1 hka
        exact ⟨s, by rw [e2]; exact rep_mono hpre s k (rep_mono (finT_pre b _) s k h3), .inr (.inl h4)⟩
      · obtain ⟨s, h3, h4⟩ := ihb k (by omega) hk
        exact ⟨s, by rw [e2]; exact rep_mono hpre s k h3, .inr (.inr h4)⟩
    · refine ⟨.bin n a b, ?_, .inl rfl⟩
      have hk2 : k = (finT (.bin n a b) o).1 := by
        rw [e2] at h2 ⊢
        unfold putNd at h2 ⊢
        split
        · rename_i hm
          rw [if_pos hm] at h2
          exact absurd h2 hk
        · rename_i hm
          rw [if_neg hm] at h2
          have h2 : k < ((finT b (finT a o).2).2 ++ [_]).length := h2
          rw [List.length_append] at h2
          have h2 : k < (finT b (finT a o).2).2.length + 1 := h2
          show k = (finT b (finT a o).2).2.length
          omega
      rw [hk2]; exact hrep
/-- each node of a canonical list stands for a subtree -/
theorem canT_sub {t : Tr} (ht : trOk t) {k : Nat} (hk : k < (canT t).length) : subT (treeAt (canT t) k) t := by
  obtain ⟨s, h1, h2⟩ := finT_sub t [] k (Nat.zero_le _) hk
  have := rep_tree (canT_ops ht) s k (subT_ok h2 ht) h1
  rw [this]; exact h2
/-- the root is the last node -/
theorem canT_last {t : Tr} (ht : trOk t) : (finT t []).1 = (canT t).length - 1 := by
  have key : ∀ (o : List Nd) (m : Nd), finT t [] = putNd o m → (∀ k, k < o.length → ∃ s, rep o k s ∧ trOk s ∧ szT s < szT t) → opsL o → (finT t []).1 = (canT t).length - 1 := by
    intro o m he hs ho
    unfold canT
    rw [he]
    rcases putNd_lastOr o m with hm | h
    · exfalso
      have hrep := finT_rep t []
      rw [he] at hrep
      have e : putNd o m = (o.idxOf m, o) := by unfold putNd; rw [if_pos hm]
      rw [e] at hrep
      have hk : o.idxOf m < o.length := List.idxOf_lt_length_of_mem hm
      obtain ⟨s, h1, h2, h3⟩ := hs _ hk
      have t1 := rep_tree ho s _ h2 h1
      have t2 := rep_tree ho t _ ht hrep
      rw [t1] at t2
      rw [t2] at h3
      omega
    · exact h
  cases t with
  | leaf n =>
    exact key [] n rfl (fun k hk => absurd hk (by simp)) (fun i hi => absurd hi (by simp))
  | un n a =>
    have ha : trOk a := ht.2.2.2
    refine key (finT a []).2 _ rfl (fun k hk => ?_) (canT_ops ha)
    obtain ⟨s, h1, h2⟩ := finT_sub a [] k (Nat.zero_le _) hk
    have := subT_sz h2
    exact ⟨s, h1, subT_ok h2 ha, by show szT s < szT a + 1; omega⟩
  | bin n a b =>
    have ha : trOk a := ht.2.2.2.1
    have hb : trOk b := ht.2.2.2.2
    refine key (finT b (finT a []).2).2 _ rfl (fun k hk => ?_) (finT_ops b hb (canT_ops ha))
    by_cases hka : k < (finT a []).2.length
    · obtain ⟨s, h1, h2⟩ := finT_sub a [] k (Nat.zero_le _) hka
      have := subT_sz h2
      exact ⟨s, rep_mono (finT_pre b _) s k h1, subT_ok h2 ha, by show szT s < szT a + szT b + 1; omega⟩
    · obtain ⟨s, h1, h2⟩ := finT_sub b (finT a []).2 k (by omega) hk
      have := subT_sz h2
      exact ⟨s, h1, subT_ok h2 hb, by show szT s < szT a + szT b + 1; omega⟩
/-- the canonical list stands for the tree -/
theorem canT_tree {t : Tr} (ht : trOk t) : treeAt (canT t) ((canT t).length - 1) = t := by
  have h := finT_rep t []
  rw [canT_last ht] at h
  exact rep_tree (canT_ops ht) t _ ht h
theorem canT_inj {t s : Tr} (ht : trOk t) (hs : trOk s) (h : canT t = canT s) : t = s := by
  rw [← canT_tree ht, ← canT_tree hs, h]
theorem canT_ne (t : Tr) : canT t ≠ [] := fun e => by have := finT_lt t []; unfold canT at e; rw [e] at this; simp at this
/-- the canonical list of a canonical list is itself -/
theorem canonF_canT {t : Tr} (ht : trOk t) : canonF (canT t) = canT t := by
  rw [canonF_tree (canT_ops ht) (canT_ne t), canT_tree ht]
end Go.Proofs.Ws
namespace Go.Proofs.Ws
open Go
/-- node j uses node k -/
def uses (o : List Nd) (j k : Nat) : Prop := j < o.length ∧ ((usesX (o.getD j nd0).op = true ∧ (o.getD j nd0).x = (k : Int)) ∨ (usesY (o.getD j nd0).op = true ∧ (o.getD j nd0).y = (k : Int)))
theorem uses_mono {o o' : List Nd} (hp : o <+: o') {j k : Nat} (h : uses o j k) : uses o' j k := by
  obtain ⟨r, rfl⟩ := hp
  obtain ⟨h1, h2⟩ := h
  have e : (o ++ r).getD j nd0 = o.getD j nd0 := by rw [List.getD_eq_getElem?_getD, List.getElem?_append_left h1, ← List.getD_eq_getElem?_getD]
  exact ⟨by rw [List.length_append]; omega, by rw [e]; exact h2⟩
/-- where the root of a put tree is old, nothing is put -/
theorem finT_oldroot {t : Tr} (ht : trOk t) {o : List Nd} (ho : opsL o) (hn : o.Nodup) (h : (finT t o).1 < o.length) : finT t o = ((finT t o).1, o) := by
  have hrep := finT_rep t o
  have ho' := finT_ops t ht ho
  have hp := finT_pre t o
  -- the node of the root lies in o, with all that it uses
  have key : ∀ (m k : Nat) (s : Tr), k < m → k < o.length → trOk s → rep (finT t o).2 k s → rep o k s := by
    intro m
    induction m with
    | zero => intro k s h; omega
    | succ m ih =>
      intro k s hkm hk hs hr
      have hat : ∀ j, j < o.length → (finT t o).2[j]? = o[j]? := fun j hj => by
        obtain ⟨r, hr⟩ := hp
        rw [← hr, List.getElem?_append_left hj]
      have hopk := ho k hk
      cases s with
      | leaf n =>
        have hr : (finT t o).2[k]? = some n := hr
        rw [hat k hk] at hr
        exact hr
      | un n a =>
        obtain ⟨x, h1, h2⟩ := hr
        rw [hat k hk] at h1
        have hg := getD_some h1
        rw [hg] at hopk
        have hx := opsOk_x hopk hs.1
        have hx2 : x < k := by have := hx.2; simpa using this
        exact ⟨x, h1, ih x a (by omega) (by omega) hs.2.2.2 h2⟩
      | bin n a b =>
        obtain ⟨x, y, h1, h2, h3⟩ := hr
        rw [hat k hk] at h1
        have hg := getD_some h1
        rw [hg] at hopk
        have hx := opsOk_x hopk hs.1
        have hy := opsOk_y hopk hs.2.1
        have hx2 : x < k := by have := hx.2; simpa using this
        have hy2 : y < k := by have := hy.2; simpa using this
        exact ⟨x, y, h1, ih x a (by omega) (by omega) hs.2.2.2.1 h2, ih y b (by omega) (by omega) hs.2.2.2.2 h3⟩
  exact finT_old hn t _ (key _ _ t (Nat.lt_succ_self _) h ht hrep)
/-- what is put new, but the root, is used by something -/
theorem finT_used : ∀ (t : Tr) (o : List Nd), trOk t → opsL o → o.Nodup → ∀ k, o.length ≤ k → k < (finT t o).2.length → k = (finT t o).1 ∨ ∃ j, k < j ∧ uses (finT t o).2 j k
  | .leaf n, o, ht, ho, hn, k, h1, h2 => by
    left
    have e2 : (finT (.leaf n) o) = putNd o n := rfl
    rw [e2] at h2 ⊢
    unfold putNd at h2 ⊢
    split
    · rename_i hm
      rw [if_pos hm] at h2
      have h2 : k < o.length := h2
      omega
    · rename_i hm
      rw [if_neg hm] at h2
      have h2 : k < (o ++ [n]).length := h2
      rw [List.length_append] at h2
      have h2 : k < o.length + 1 := h2
      show k = o.length
      omega
  | .un n a, o, ht, ho, hn, k, h1, h2 => by
    have ha : trOk a := ht.2.2.2
    by_cases hold : (finT (.un n a) o).1 < o.length
    · rw [finT_oldroot ht ho hn hold] at h2
      have h2 : k < o.length := h2
      omega
    · have hrep := finT_rep (.un n a) o
      obtain ⟨x, hx1, hx2⟩ := hrep
      have ho' := finT_ops (.un n a) ht ho
      have hpre := putNd_pre (finT a o).2 { n with x := ((finT a o).1 : Int) }
      have e2 : (finT (.un n a) o) = putNd (finT a o).2 { n with x := ((finT a o).1 : Int) } := rfl
      have hlast := putNd_at (finT a o).2 { n with x := ((finT a o).1 : Int) }
      have hroot : uses (finT (.un n a) o).2 (finT (.un n a) o).1 (finT a o).1 := by
        rw [e2]
        refine ⟨(putNd_len _ _).2, .inl ?_⟩
        rw [getD_some hlast]
        exact ⟨ht.1, rfl⟩
      by_cases hk : k < (finT a o).2.length
      · rcases finT_used a o ha ho hn k h1 hk with h | ⟨j, h3, h4⟩
        · right
          refine ⟨_, ?_, by rw [h]; exact hroot⟩
          have := (opsOk_x (ho' _ hroot.1) (by rw [e2, getD_some hlast]; exact ht.1)).2
          rw [e2, getD_some hlast] at this
          have this : (((finT a o).1 : Int)).toNat < _ := this
          rw [Int.toNat_natCast] at this
          rw [h, e2]; exact this
        · exact .inr ⟨j, h3, by rw [e2]; exact uses_mono hpre h4⟩
      · left
        rw [e2] at h2 ⊢
        unfold putNd at h2 ⊢
        split
        · rename_i hm
          rw [if_pos hm] at h2
          exact absurd h2 hk
        · rename_i hm
          rw [if_neg hm] at h2
          have h2 : k < ((finT a o).2 ++ [_]).length := h2
          rw [List.length_append] at h2
          have h2 : k < (finT a o).2.length + 1 := h2
          show k = (finT a o).2.length
          omega
  | .bin n a b, o, ht, ho, hn, k, h1, h2 => by
    have ha : trOk a := ht.2.2.2.1
    have hb : trOk b := ht.2.2.2.2
    have e2 : (finT (.bin n a b) o) = putNd (finT b (finT a o).2).2 { n with x := ((finT a o).1 : Int), y := ((finT b (finT a o).2).1 : Int) } := rfl
    have ho' := finT_ops (.bin n a b) ht ho
    have hpre := putNd_pre (finT b (finT a o).2).2 { n with x := ((finT a o).1 : Int), y := ((finT b (finT a o).2).1 : Int) }
    have hlast := putNd_at (finT b (finT a o).2).2 { n with x := ((finT a o).1 : Int), y := ((finT b (finT a o).2).1 : Int) }
    have hrx : uses (finT (.bin n a b) o).2 (finT (.bin n a b) o).1 (finT a o).1 := by
      rw [e2]
      refine ⟨(putNd_len _ _).2, .inl ?_⟩
      rw [getD_some hlast]
      exact ⟨ht.1, rfl⟩
    have hry : uses (finT (.bin n a b) o).2 (finT (.bin n a b) o).1 (finT b (finT a o).2).1 := by
      rw [e2]
      refine ⟨(putNd_len _ _).2, .inr ?_⟩
      rw [getD_some hlast]
      exact ⟨ht.2.1, rfl⟩
    have lx : (finT a o).1 < (finT (.bin n a b) o).1 := by
      have := (opsOk_x (ho' _ hrx.1) (by rw [e2, getD_some hlast]; exact ht.1)).2
      rw [e2, getD_some hlast] at this
      have this : (((finT a o).1 : Int)).toNat < _ := this
      rw [Int.toNat_natCast] at this
      rw [e2]; exact this
    have ly : (finT b (finT a o).2).1 < (finT (.bin n a b) o).1 := by
      have := (opsOk_y (ho' _ hry.1) (by rw [e2, getD_some hlast]; exact ht.2.1)).2
      rw [e2, getD_some hlast] at this
      have this : (((finT b (finT a o).2).1 : Int)).toNat < _ := this
      rw [Int.toNat_natCast] at this
      rw [e2]; exact this
    by_cases hk : k < (finT b (finT a o).2).2.length
    · by_cases hka : k < (finT a o).2.length
      · rcases finT_used a o ha ho hn k h1 hka with h | ⟨j, h3, h4⟩
        · exact .inr ⟨_, by rw [h]; exact lx, by rw [h]; exact hrx⟩
        · exact .inr ⟨j, h3, by rw [e2]; exact uses_mono hpre (uses_mono (finT_pre b _) h4)⟩
      · rcases finT_used b (finT a o).2 hb (finT_ops a ha ho) (finT_nodup a hn) k (by omega) hk with h | ⟨j, h3, h4⟩
        · exact .inr ⟨_, by rw [h]; exact ly, by rw [h]; exact hry⟩
        · exact .inr ⟨j, h3, by rw [e2]; exact uses_mono hpre h4⟩
    · left
      rw [e2] at h2 ⊢
      unfold putNd at h2 ⊢
      split
      · rename_i hm
        rw [if_pos hm] at h2
        exact absurd h2 hk
      · rename_i hm
        rw [if_neg hm] at h2
        have h2 : k < ((finT b (finT a o).2).2 ++ [_]).length := h2
        rw [List.length_append] at h2
        have h2 : k < (finT b (finT a o).2).2.length + 1 := h2
        show k = (finT b (finT a o).2).2.length
        omega
/-- each node of a canonical list but the last is used by a later one -/
theorem canT_used {t : Tr} (ht : trOk t) {k : Nat} (hk : k + 1 < (canT t).length) : ∃ j, k < j ∧ uses (canT t) j k := by
  rcases finT_used t [] ht (fun i hi => absurd hi (by simp)) List.nodup_nil k (Nat.zero_le _) (by show k < (canT t).length; omega) with h | h
  · rw [canT_last ht] at h; omega
  · exact h
end Go.Proofs.Ws
namespace Go.Proofs.Ws
open Go
theorem len_sub {α : Type} [DecidableEq α] : ∀ (l m : List α), l.Nodup → (∀ a ∈ l, a ∈ m) → l.length ≤ m.length
  | [], _, _, _ => Nat.zero_le _
  | a :: l, m, h, hs => by
    have ha : a ∈ m := hs a List.mem_cons_self
    have hn := List.nodup_cons.1 h
    have := len_sub l (m.erase a) hn.2 (fun b hb => (List.mem_erase_of_ne (fun e => hn.1 (by rw [← e]; exact hb))).2 (hs b (List.mem_cons_of_mem _ hb)))
    rw [List.length_erase_of_mem ha] at this
    have := List.length_pos_of_mem ha
    simp only [List.length_cons]
    omega
/-- a strict subtree is smaller -/
theorem subT_lt {s t : Tr} (h : subT s t) : s = t ∨ szT s < szT t := by
  cases t with
  | leaf n => exact .inl h
  | un n a =>
    rcases h with h | h
    · exact .inl h
    · have := subT_sz h
      exact .inr (by show szT s < szT a + 1; omega)
  | bin n a b =>
    rcases h with h | h | h
    · exact .inl h
    · have := subT_sz h
      exact .inr (by show szT s < szT a + szT b + 1; omega)
    · have := subT_sz h
      exact .inr (by show szT s < szT a + szT b + 1; omega)
theorem subT_trans {r s : Tr} (h : subT r s) : ∀ {t : Tr}, subT s t → subT r t
  | .leaf n, h2 => by have h2 : s = .leaf n := h2; rw [h2] at h; exact h
  | .un n a, h2 => by
    rcases h2 with h2 | h2
    · rw [h2] at h; exact h
    · exact .inr (subT_trans h h2)
  | .bin n a b, h2 => by
    rcases h2 with h2 | h2 | h2
    · rw [h2] at h; exact h
    · exact .inr (.inl (subT_trans h h2))
    · exact .inr (.inr (subT_trans h h2))
/-- a subtree of a tree that lies in a list lies there -/
theorem rep_sub {o : List Nd} {s : Tr} : ∀ {t : Tr} {k : Nat}, rep o k t → subT s t → ∃ j, rep o j s
  | .leaf n, k, h, h2 => by have h2 : s = .leaf n := h2; rw [h2]; exact ⟨k, h⟩
  | .un n a, k, h, h2 => by
    rcases h2 with h2 | h2
    · rw [h2]; exact ⟨k, h⟩
    · obtain ⟨x, _, h3⟩ := h
      exact rep_sub h3 h2
  | .bin n a b, k, h, h2 => by
    rcases h2 with h2 | h2 | h2
    · rw [h2]; exact ⟨k, h⟩
    · obtain ⟨x, y, _, h3, _⟩ := h
      exact rep_sub h3 h2
    · obtain ⟨x, y, _, _, h3⟩ := h
      exact rep_sub h3 h2
theorem rep_lt {o : List Nd} {k : Nat} {t : Tr} (h : rep o k t) : k < o.length := by
  cases t with
  | leaf n => exact (List.getElem?_eq_some_iff.1 h).1
  | un n a => obtain ⟨x, h, _⟩ := h; exact (List.getElem?_eq_some_iff.1 h).1
  | bin n a b => obtain ⟨x, y, h, _⟩ := h; exact (List.getElem?_eq_some_iff.1 h).1
/-- all trees of a canonical list -/
def treesL (t : Tr) : List Tr := (List.range (canT t).length).map (treeAt (canT t))
theorem treesL_mem {t : Tr} (ht : trOk t) (s : Tr) : s ∈ treesL t ↔ subT s t := by
  unfold treesL
  rw [List.mem_map]
  constructor
  · rintro ⟨k, hk, rfl⟩
    exact canT_sub ht (List.mem_range.1 hk)
  · intro h
    obtain ⟨j, hj⟩ := rep_sub (finT_rep t []) h
    exact ⟨j, List.mem_range.2 (rep_lt hj), rep_tree (canT_ops ht) s j (subT_ok h ht) hj⟩
theorem treesL_nodup {t : Tr} (ht : trOk t) : (treesL t).Nodup := by
  unfold treesL
  rw [List.nodup_iff_pairwise_ne, List.pairwise_map]
  refine List.Pairwise.imp_of_mem ?_ (List.nodup_iff_pairwise_ne.1 List.nodup_range)
  intro i j hi hj hne he
  apply hne
  have hi := List.mem_range.1 hi
  have hj := List.mem_range.1 hj
  have r1 := rep_of_tree (canT_ops ht) (i + 1) i (by omega) hi
  have r2 := rep_of_tree (canT_ops ht) (j + 1) j (by omega) hj
  rw [← he] at r2
  have e1 := finT_old (canT_nodup t) _ i r1
  have e2 := finT_old (canT_nodup t) _ j r2
  rw [e1] at e2
  exact congrArg Prod.fst e2
/-- a subtree's canonical list is shorter, or it is the tree's own -/
theorem canT_len {s t : Tr} (ht : trOk t) (h : subT s t) : s = t ∨ (canT s).length < (canT t).length := by
  rcases subT_lt h with h1 | h1
  · exact .inl h1
  right
  have hs := subT_ok h ht
  have key := len_sub (t :: treesL s) (treesL t)
    (List.nodup_cons.2 ⟨fun hm => by have := subT_sz ((treesL_mem hs t).1 hm); omega, treesL_nodup hs⟩)
    (fun a ha => by
      rcases List.mem_cons.1 ha with rfl | ha
      · exact (treesL_mem ht _).2 (subT_refl _)
      · exact (treesL_mem ht a).2 (subT_trans ((treesL_mem hs a).1 ha) h))
  have e : ∀ r : Tr, (treesL r).length = (canT r).length := fun r => by unfold treesL; rw [List.length_map, List.length_range]
  rw [List.length_cons, e, e] at key
  omega
/-- the operator of a tree -/
def topT : Tr → Int
  | .leaf n => n.op
  | .un n _ => n.op
  | .bin n _ _ => n.op
theorem topT_at {o : List Nd} (ho : opsL o) {k : Nat} (hk : k < o.length) : topT (treeAt o k) = (o.getD k nd0).op := by
  rw [treeAt_eq ho hk]
  split
  · rfl
  · split <;> rfl
/-- each operator of a subtree's list is one of the tree's list -/
theorem canT_op {s t : Tr} (ht : trOk t) (h : subT s t) {n : Nd} (hn : n ∈ canT s) : ∃ m ∈ canT t, m.op = n.op := by
  have hs := subT_ok h ht
  obtain ⟨k, hk, rfl⟩ := List.getElem_of_mem hn
  have h1 := canT_sub hs hk
  have h2 := (treesL_mem ht _).2 (subT_trans h1 h)
  unfold treesL at h2
  obtain ⟨j, hj, he⟩ := List.mem_map.1 h2
  have hj := List.mem_range.1 hj
  have e1 := topT_at (canT_ops ht) hj
  have e2 := topT_at (canT_ops hs) hk
  rw [he, e2] at e1
  refine ⟨(canT t)[j], List.getElem_mem hj, ?_⟩
  rw [List.getD_eq_getElem?_getD, List.getElem?_eq_getElem hk, List.getD_eq_getElem?_getD, List.getElem?_eq_getElem hj] at e1
  exact e1.symm
end Go.Proofs.Ws
