/- Mathematics of PartitionBack: the blocks are apart and cover all; together exactly at equal keys. -/
import Derived.Test.YtichhbnpdhfimaaDoorPq
namespace Go.Proofs.YtichhbnpdhfimaaDoor
open Go.RowKit Go.Proofs.Ws
def rootsL (p : List Int) : List Nat := (List.range p.length).filter (fun i => decide (p.getD i 0 = (i : Int)))
theorem rootsL_nodup (p : List Int) : (rootsL p).Nodup := List.Pairwise.filter _ List.nodup_range
theorem blocks_roots {n : Nat} {p : List Int} (h : Can n p) : blocksL p = (rootsL p).map (fun (i : Nat) => cls p (i : Int) n) := by
  unfold blocksL
  rw [if_pos h.ok]
  unfold blkTo rootsL
  rw [h.len]
theorem rootsL_le (p : List Int) : (rootsL p).length ≤ p.length := by
  have h := List.length_filter_le (fun i : Nat => decide (p.getD i 0 = (i : Int))) (List.range p.length)
  rw [List.length_range] at h
  exact h
/-- the points of the first k blocks -/
def accB (bs : List Nat) : Nat → Nat
  | 0 => 0
  | k + 1 => accB bs k ||| bs.getD k 0
theorem accB_lt {bs : List Nat} (h : ∀ x ∈ bs, x < 18446744073709551616) : ∀ k, accB bs k < 18446744073709551616
  | 0 => by show 0 < 18446744073709551616; decide
  | k + 1 => Nat.or_lt_two_pow (n := 64) (accB_lt h k) (by
    by_cases hk : k < bs.length
    · rw [List.getD_eq_getElem?_getD, List.getElem?_eq_getElem hk]
      exact h _ (List.getElem_mem hk)
    · rw [List.getD_eq_getElem?_getD, List.getElem?_eq_none (by omega)]; decide)
theorem accB_bit (bs : List Nat) (v : Nat) : ∀ k, (accB bs k).testBit v = true ↔ ∃ m, m < k ∧ (bs.getD m 0).testBit v = true
  | 0 => by simp [accB]
  | k + 1 => by
    show (accB bs k ||| bs.getD k 0).testBit v = true ↔ _
    rw [Nat.testBit_or, Bool.or_eq_true, accB_bit bs v k]
    constructor
    · rintro (⟨m, h1, h2⟩ | h)
      · exact ⟨m, by omega, h2⟩
      · exact ⟨k, by omega, h⟩
    · rintro ⟨m, h1, h2⟩
      by_cases e : m = k
      · subst e; exact .inr h2
      · exact .inl ⟨m, by omega, h2⟩
section
variable {n : Nat} {p : List Int} (h : Can n p)
include h
theorem blocks_at {k : Nat} (hk : k < (blocksL p).length) : ∃ r, (rootsL p)[k]? = some r ∧ r < n ∧ p.getD r 0 = (r : Int) ∧ (blocksL p).getD k 0 = cls p (r : Int) n := by
  rw [blocks_roots h, List.length_map] at hk
  have hm := List.getElem_mem hk
  have hg := List.getElem?_eq_getElem hk
  generalize (rootsL p)[k] = r at *
  unfold rootsL at hm
  rw [List.mem_filter, List.mem_range, decide_eq_true_eq, h.len] at hm
  refine ⟨r, hg, hm.1, hm.2, ?_⟩
  rw [blocks_roots h, List.getD_eq_getElem?_getD, List.getElem?_map, hg]; rfl
theorem blocks_ne {k : Nat} (hk : k < (blocksL p).length) : (blocksL p).getD k 0 ≠ 0 := by
  obtain ⟨r, _, h1, h2, h3⟩ := blocks_at h hk
  rw [h3]
  intro e
  have := (cls_bit p (r : Int) r n).2 ⟨h1, h2⟩
  rw [e, Nat.zero_testBit] at this
  cases this
theorem blocks_apart {k : Nat} (hk : k < (blocksL p).length) : accB (blocksL p) k &&& (blocksL p).getD k 0 = 0 := by
  apply Nat.eq_of_testBit_eq
  intro v
  rw [Nat.zero_testBit, Nat.testBit_and]
  apply Bool.eq_false_iff.2
  intro hb
  rw [Bool.and_eq_true] at hb
  obtain ⟨m, hm, h1⟩ := (accB_bit _ v k).1 hb.1
  obtain ⟨r, e1, _, _, h2⟩ := blocks_at h (show m < (blocksL p).length by omega)
  obtain ⟨s, e2, _, _, h3⟩ := blocks_at h hk
  rw [h2] at h1
  have h4 := hb.2
  rw [h3] at h4
  have q1 := ((cls_bit p (r : Int) v n).1 h1).2
  have q2 := ((cls_bit p (s : Int) v n).1 h4).2
  have hrs : r = s := by omega
  subst hrs
  have hl1 : m < (rootsL p).length := (List.getElem?_eq_some_iff.1 e1).1
  have := (List.getElem?_inj hl1 (rootsL_nodup p)).1 (e1.trans e2.symm)
  omega
theorem blocks_cover {v : Nat} (hv : v < n) : (accB (blocksL p) (blocksL p).length).testBit v = true := by
  rw [accB_bit]
  have hf := part_forest h.ok
  have hr : fo p v ∈ rootsL p := by
    unfold rootsL
    have hlt := fo_lt hf hv
    rw [List.mem_filter, List.mem_range, decide_eq_true_eq, h.len, hf.at_ (by rw [h.len]; exact hlt), h.idem]
    exact ⟨hlt, rfl⟩
  obtain ⟨m, hm, e⟩ := List.getElem_of_mem hr
  have hlen : (blocksL p).length = (rootsL p).length := by rw [blocks_roots h, List.length_map]
  refine ⟨m, by omega, ?_⟩
  obtain ⟨r, e1, _, _, h2⟩ := blocks_at h (show m < (blocksL p).length by omega)
  rw [List.getElem?_eq_getElem hm, e] at e1
  cases e1
  rw [h2]
  exact (cls_bit p _ v n).2 ⟨hv, hf.at_ (by rw [h.len]; exact hv)⟩
end
theorem keyP_same (l : List Int) {i j : Nat} (hi : i < l.length) (hj : j < l.length) (hm : l.length ≤ 64) : (blkV (keyP l) (i : Int)).testBit j = true ↔ l.getD i 0 = l.getD j 0 := by
  rw [blk_bit (keyP_can l hm) hi]
  have e : ∀ k, k < l.length → fo (keyP l) k = firstAt (List.replicate l.length 0) l k := fun k hk => fo_canon (by simp) hk
  rw [e i hi, e j hj]
  have hrep : ∀ k, k < l.length → (List.replicate l.length (0 : Int)).getD k 0 = 0 := fun k hk => by
    rw [List.getD_eq_getElem?_getD, List.getElem?_replicate, if_pos hk]; rfl
  have hs : ∀ u v, u < l.length → v < l.length → (sameAt (List.replicate l.length 0) l u v = true ↔ l.getD v 0 = l.getD u 0) := fun u v hu hv => by
    rw [sameAt_iff, hrep u hu, hrep v hv]; simp
  constructor
  · rintro ⟨_, h⟩
    have hi' := (firstAt_spec (List.replicate l.length 0) l i)
    have hj' := (firstAt_spec (List.replicate l.length 0) l j)
    have q1 := (hs i _ hi (by omega)).1 hi'.1
    have q2 := (hs j _ hj (by omega)).1 hj'.1
    rw [h, q1] at q2
    exact q2
  · intro h
    refine ⟨hj, ?_⟩
    have hs1 : sameAt (List.replicate l.length 0) l i j = true := (hs i j hi hj).2 h.symm
    obtain ⟨s1, _, s3⟩ := firstAt_spec (List.replicate l.length 0) l i
    exact firstAt_unique _ _ _ _ (by rw [← sameAt_trans hs1]; exact s1) (fun k hk => by rw [← sameAt_trans hs1]; exact s3 k hk)
end Go.Proofs.YtichhbnpdhfimaaDoor
