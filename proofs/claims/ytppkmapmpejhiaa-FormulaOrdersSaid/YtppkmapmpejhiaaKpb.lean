/- Layer 5 as plain mathematics: all nodes of a canonical list are used; the order of lists. -/
import Derived.Test.YtppkmapmpejhiaaKpa
namespace Go.Proofs.Ws
open Go
/-- node j uses node k -/
def uses (o : List Nd) (j k : Nat) : Prop := j < o.length ∧ ((usesX (o.getD j nd0).op = true ∧ (o.getD j nd0).x = (k : Int)) ∨ (usesY (o.getD j nd0).op = true ∧ (o.getD j nd0).y = (k : Int)))
theorem uses_mono {o o' : List Nd} (hp : o <+: o') {j k : Nat} (h : uses o j k) : uses o' j k := by
  obtain ⟨r, rfl⟩ := hp
  obtain ⟨h1, h2⟩ := h
  have e : (o ++ r).getD j nd0 = o.getD j nd0 := by rw [List.getD_eq_getElem?_getD, List.getElem?_append_left h1, ← List.getD_eq_getElem?_getD]
  exact ⟨by rw [List.length_append]; omega, by rw [e]; exact h2⟩
/-- where the root of a put tree is old, nothing is put -/
theorem finT_oldroot {t : Tr} (ht : trOk t) {o : List Nd} (ho : opsL o) (hn : o.Nodup) (h : (finT t o).1 < o.length) : finT t o = ((finT t o).1, o) := by
  have hrep := finT_rep t o
  have ho' := finT_ops t ht ho
  have hp := finT_pre t o
  -- the node of the root lies in o, with all that it uses
  have key : ∀ (m k : Nat) (s : Tr), k < m → k < o.length → trOk s → rep (finT t o).2 k s → rep o k s := by
    intro m
    induction m with
    | zero => intro k s h; omega
    | succ m ih =>
      intro k s hkm hk hs hr
      have hat : ∀ j, j < o.length → (finT t o).2[j]? = o[j]? := fun j hj => by
        obtain ⟨r, hr⟩ := hp
        rw [← hr, List.getElem?_append_left hj]
      have hopk := ho k hk
      cases s with
      | leaf n =>
        have hr : (finT t o).2[k]? = some n := hr
        rw [hat k hk] at hr
        exact hr
      | un n a =>
        obtain ⟨x, h1, h2⟩ := hr
        rw [hat k hk] at h1
        have hg := getD_some h1
        rw [hg] at hopk
        have hx := opsOk_x hopk hs.1
        have hx2 : x < k := by have := hx.2; simpa using this
        exact ⟨x, h1, ih x a (by omega) (by omega) hs.2.2.2 h2⟩
      | bin n a b =>
        obtain ⟨x, y, h1, h2, h3⟩ := hr
        rw [hat k hk] at h1
        have hg := getD_some h1
        rw [hg] at hopk
        have hx := opsOk_x hopk hs.1
        have hy := opsOk_y hopk hs.2.1
        have hx2 : x < k := by have := hx.2; simpa using this
        have hy2 : y < k := by have := hy.2; simpa using this
        exact ⟨x, y, h1, ih x a (by omega) (by omega) hs.2.2.2.1 h2, ih y b (by omega) (by omega) hs.2.2.2.2 h3⟩
  exact finT_old hn t _ (key _ _ t (Nat.lt_succ_self _) h ht hrep)
/-- what is put new, but the root, is used by something -/
theorem finT_used : ∀ (t : Tr) (o : List Nd), trOk t → opsL o → o.Nodup → ∀ k, o.length ≤ k → k < (finT t o).2.length → k = (finT t o).1 ∨ ∃ j, k < j ∧ uses (finT t o).2 j k
  | .leaf n, o, ht, ho, hn, k, h1, h2 => by
    left
    have e2 : (finT (.leaf n) o) = putNd o n := rfl
    rw [e2] at h2 ⊢
    unfold putNd at h2 ⊢
    split
    · rename_i hm
      rw [if_pos hm] at h2
      have h2 : k < o.length := h2
      omega
    · rename_i hm
      rw [if_neg hm] at h2
      have h2 : k < (o ++ [n]).length := h2
      rw [List.length_append] at h2
      have h2 : k < o.length + 1 := h2
      show k = o.length
      omega
  | .un n a, o, ht, ho, hn, k, h1, h2 => by
    have ha : trOk a := ht.2.2.2
    by_cases hold : (finT (.un n a) o).1 < o.length
    · rw [finT_oldroot ht ho hn hold] at h2
      have h2 : k < o.length := h2
      omega
    · have hrep := finT_rep (.un n a) o
      obtain ⟨x, hx1, hx2⟩ := hrep
      have ho' := finT_ops (.un n a) ht ho
      have hpre := putNd_pre (finT a o).2 { n with x := ((finT a o).1 : Int) }
      have e2 : (finT (.un n a) o) = putNd (finT a o).2 { n with x := ((finT a o).1 : Int) } := rfl
      have hlast := putNd_at (finT a o).2 { n with x := ((finT a o).1 : Int) }
      have hroot : uses (finT (.un n a) o).2 (finT (.un n a) o).1 (finT a o).1 := by
        rw [e2]
        refine ⟨(putNd_len _ _).2, .inl ?_⟩
        rw [getD_some hlast]
        exact ⟨ht.1, rfl⟩
      by_cases hk : k < (finT a o).2.length
      · rcases finT_used a o ha ho hn k h1 hk with h | ⟨j, h3, h4⟩
        · right
          refine ⟨_, ?_, by rw [h]; exact hroot⟩
          have := (opsOk_x (ho' _ hroot.1) (by rw [e2, getD_some hlast]; exact ht.1)).2
          rw [e2, getD_some hlast] at this
          have this : (((finT a o).1 : Int)).toNat < _ := this
          rw [Int.toNat_natCast] at this
          rw [h, e2]; exact this
        · exact .inr ⟨j, h3, by rw [e2]; exact uses_mono hpre h4⟩
      · left
        rw [e2] at h2 ⊢
        unfold putNd at h2 ⊢
        split
        · rename_i hm
          rw [if_pos hm] at h2
          exact absurd h2 hk
        · rename_i hm
          rw [if_neg hm] at h2
          have h2 : k < ((finT a o).2 ++ [_]).length := h2
          rw [List.length_append] at h2
          have h2 : k < (finT a o).2.length + 1 := h2
          show k = (finT a o).2.length
          omega
  | .bin n a b, o, ht, ho, hn, k, h1, h2 => by
    have ha : trOk a := ht.2.2.2.1
    have hb : trOk b := ht.2.2.2.2
    have e2 : (finT (.bin n a b) o) = putNd (finT b (finT a o).2).2 { n with x := ((finT a o).1 : Int), y := ((finT b (finT a o).2).1 : Int) } := rfl
    have ho' := finT_ops (.bin n a b) ht ho
    have hpre := putNd_pre (finT b (finT a o).2).2 { n with x := ((finT a o).1 : Int), y := ((finT b (finT a o).2).1 : Int) }
    have hlast := putNd_at (finT b (finT a o).2).2 { n with x := ((finT a o).1 : Int), y := ((finT b (finT a o).2).1 : Int) }
    have hrx : uses (finT (.bin n a b) o).2 (finT (.bin n a b) o).1 (finT a o).1 := by
      rw [e2]
      refine ⟨(putNd_len _ _).2, .inl ?_⟩
      rw [getD_some hlast]
      exact ⟨ht.1, rfl⟩
    have hry : uses (finT (.bin n a b) o).2 (finT (.bin n a b) o).1 (finT b (finT a o).2).1 := by
      rw [e2]
      refine ⟨(putNd_len _ _).2, .inr ?_⟩
      rw [getD_some hlast]
      exact ⟨ht.2.1, rfl⟩
    have lx : (finT a o).1 < (finT (.bin n a b) o).1 := by
      have := (opsOk_x (ho' _ hrx.1) (by rw [e2, getD_some hlast]; exact ht.1)).2
      rw [e2, getD_some hlast] at this
      have this : (((finT a o).1 : Int)).toNat < _ := this
      rw [Int.toNat_natCast] at this
      rw [e2]; exact this
    have ly : (finT b (finT a o).2).1 < (finT (.bin n a b) o).1 := by
      have := (opsOk_y (ho' _ hry.1) (by rw [e2, getD_some hlast]; exact ht.2.1)).2
      rw [e2, getD_some hlast] at this
      have this : (((finT b (finT a o).2).1 : Int)).toNat < _ := this
      rw [Int.toNat_natCast] at this
      rw [e2]; exact this
    by_cases hk : k < (finT b (finT a o).2).2.length
    · by_cases hka : k < (finT a o).2.length
      · rcases finT_used a o ha ho hn k h1 hka with h | ⟨j, h3, h4⟩
        · exact .inr ⟨_, by rw [h]; exact lx, by rw [h]; exact hrx⟩
        · exact .inr ⟨j, h3, by rw [e2]; exact uses_mono hpre (uses_mono (finT_pre b _) h4)⟩
      · rcases finT_used b (finT a o).2 hb (finT_ops a ha ho) (finT_nodup a hn) k (by omega) hk with h | ⟨j, h3, h4⟩
        · exact .inr ⟨_, by rw [h]; exact ly, by rw [h]; exact hry⟩
        · exact .inr ⟨j, h3, by rw [e2]; exact uses_mono hpre h4⟩
    · left
      rw [e2] at h2 ⊢
      unfold putNd at h2 ⊢
      split
      · rename_i hm
        rw [if_pos hm] at h2
        exact absurd h2 hk
      · rename_i hm
        rw [if_neg hm] at h2
        have h2 : k < ((finT b (finT a o).2).2 ++ [_]).length := h2
        rw [List.length_append] at h2
        have h2 : k < (finT b (finT a o).2).2.length + 1 := h2
        show k = (finT b (finT a o).2).2.length
        omega
/-- each node of a canonical list but the last is used by a later one -/
theorem canT_used {t : Tr} (ht : trOk t) {k : Nat} (hk : k + 1 < (canT t).length) : ∃ j, k < j ∧ uses (canT t) j k := by
  rcases finT_used t [] ht (fun i hi => absurd hi (by simp)) List.nodup_nil k (Nat.zero_le _) (by show k < (canT t).length; omega) with h | h
  · rw [canT_last ht] at h; omega
  · exact h
end Go.Proofs.Ws
