/- Mathematics for the laws of layer 2: a path leads along pairs, and there is one exactly if a point of the second set is reached. -/
import Derived.Test.YtogjbghieoifjaaDoorBq
namespace Go.Proofs.YtogjbghieoifjaaDoor
open Go.RowKit Go.Proofs.Ws
theorem down_ok {R : List Nat} {n s K : Nat} (h0 : relErr n R = 0) (hl : R.length = n) : ∀ c x, OnWay R n s K (c + 1) x →
    (∀ i, i < c + 1 → (down R (lvl R s) (c + 1) x).getD i 0 < n) ∧ (∀ i, i + 1 < c + 1 → bit R ((down R (lvl R s) (c + 1) x).getD i 0) ((down R (lvl R s) (c + 1) x).getD (i + 1) 0) = true) ∧
      x.testBit ((down R (lvl R s) (c + 1) x).getD 0 0) = true ∧ s.testBit ((down R (lvl R s) (c + 1) x).getD c 0) = true
  | 0, x, h => by
    have hp := h.point h0 hl
    rw [down]
    refine ⟨fun i hi => ?_, fun i hi => absurd hi (by omega), hp.2.1, hp.2.2⟩
    obtain rfl : i = 0 := by omega
    exact hp.1
  | c + 1, x, h => by
    have hp := h.point h0 hl
    have ih := down_ok h0 hl c _ (h.next h0 hl)
    rw [down]
    generalize low (x &&& lvl R s (c + 1)) = w at *
    generalize down R (lvl R s) (c + 1) (R.getD w 0) = p at *
    refine ⟨fun i hi => ?_, fun i hi => ?_, hp.2.1, by simpa using ih.2.2.2⟩
    · cases i with
      | zero => exact hp.1
      | succ i => simpa using ih.1 i (by omega)
    · cases i with
      | zero => simpa [bit] using ih.2.2.1
      | succ i => simpa using ih.2.1 i (by omega)
def imgN (R : List Nat) : Nat → Nat → Nat
  | 0, x => x
  | k + 1, x => imgN R k (imgV R x)
section
variable {R : List Nat} {n : Nat} (h0 : relErr n R = 0) (hl : R.length = n)
include h0 hl
theorem img_adj (x y : Nat) : imgV R x &&& y ≠ 0 ↔ x &&& dia R y ≠ 0 := by
  rw [meets_iff, meets_iff]
  have hn : R.length ≤ 64 := by rw [hl]; exact relErr_zero h0
  constructor
  · rintro ⟨v, h1, h2⟩
    obtain ⟨u, h3, h4⟩ := (imgV_bit R x v hn).1 h1
    exact ⟨u, h3, (dia_iff h0 hl y u).2 ⟨v, h4, h2⟩⟩
  · rintro ⟨u, h1, h2⟩
    obtain ⟨v, h3, h4⟩ := (dia_iff h0 hl y u).1 h2
    exact ⟨v, (imgV_bit R x v hn).2 ⟨u, h1, h3⟩, h4⟩
theorem hit_img (s : Nat) : ∀ k x, x &&& lvl R s k ≠ 0 ↔ imgN R k x &&& s ≠ 0
  | 0, _ => Iff.rfl
  | k + 1, x => by
    show x &&& dia R (lvl R s k) ≠ 0 ↔ imgN R k (imgV R x) &&& s ≠ 0
    rw [← img_adj h0 hl, hit_img s k]
theorem img_or (x y : Nat) : imgV R (x ||| y) = imgV R x ||| imgV R y := by
  have hn : R.length ≤ 64 := by rw [hl]; exact relErr_zero h0
  apply Nat.eq_of_testBit_eq
  intro v
  rw [Bool.eq_iff_iff, Nat.testBit_or, Bool.or_eq_true, imgV_bit _ _ _ hn, imgV_bit _ _ _ hn, imgV_bit _ _ _ hn]
  constructor
  · rintro ⟨u, h1, h2⟩
    rw [Nat.testBit_or, Bool.or_eq_true] at h1
    exact h1.elim (fun h => .inl ⟨u, h, h2⟩) (fun h => .inr ⟨u, h, h2⟩)
  · rintro (⟨u, h1, h2⟩ | ⟨u, h1, h2⟩)
    · exact ⟨u, by rw [Nat.testBit_or, h1]; rfl, h2⟩
    · exact ⟨u, by rw [Nat.testBit_or, h1, Bool.or_true], h2⟩
theorem imgN_or : ∀ k x y, imgN R k (x ||| y) = imgN R k x ||| imgN R k y
  | 0, _, _ => rfl
  | k + 1, x, y => by rw [imgN, imgN, imgN, img_or h0 hl, imgN_or k]
theorem itR_bit (v : Nat) : ∀ k x, (itR R k x).testBit v = true ↔ ∃ j, j ≤ k ∧ (imgN R j x).testBit v = true
  | 0, x => by
    constructor
    · intro h; exact ⟨0, Nat.le_refl _, h⟩
    · rintro ⟨j, hj, h⟩
      obtain rfl : j = 0 := by omega
      exact h
  | k + 1, x => by
    rw [itR, itR_bit v k]
    constructor
    · rintro ⟨j, hj, h⟩
      unfold stepR at h
      rw [imgN_or h0 hl, Nat.testBit_or, Bool.or_eq_true] at h
      exact h.elim (fun h => ⟨j, by omega, h⟩) (fun h => ⟨j + 1, by omega, h⟩)
    · rintro ⟨j, hj, h⟩
      by_cases e : j ≤ k
      · exact ⟨j, e, by unfold stepR; rw [imgN_or h0 hl, Nat.testBit_or, h]; rfl⟩
      · obtain rfl : j = k + 1 := by omega
        exact ⟨k, Nat.le_refl _, by unfold stepR; rw [imgN_or h0 hl, Nat.testBit_or, show imgN R k (imgV R x) = imgN R (k + 1) x from rfl, h, Bool.or_true]⟩
theorem imgN_zero : ∀ k, imgN R k 0 = 0
  | 0 => rfl
  | k + 1 => by
    have hn : R.length ≤ 64 := by rw [hl]; exact relErr_zero h0
    have : imgV R 0 = 0 := by
      apply Nat.eq_of_testBit_eq
      intro v
      rw [Bool.eq_iff_iff, imgV_bit _ _ _ hn]
      simp
    rw [imgN, this, imgN_zero k]
theorem reach_iff (frm s : Nat) : reachV R frm &&& s ≠ 0 ↔ ∃ K, K < n ∧ frm &&& lvl R s (K + 1) ≠ 0 := by
  have e : reachV R frm = itR R n (imgV R frm) := by unfold reachV; rw [hl, if_pos h0]
  have hsh := rel_sh h0 hl
  have hx : imgV R frm < 2 ^ n := imgV_in hsh.2 _
  rw [e, meets_iff]
  constructor
  · rintro ⟨v, h1, h2⟩
    by_cases hz : imgV R frm = 0
    · rw [hz] at h1
      obtain ⟨j, _, h⟩ := (itR_bit h0 hl v n 0).1 h1
      rw [imgN_zero h0 hl] at h
      simp at h
    · have hn1 : 1 ≤ n := by
        apply Classical.byContradiction
        intro hn
        obtain rfl : n = 0 := by omega
        omega
      have hlen : 1 ≤ (mem (imgV R frm)).length := by
        rw [mem_step _ hz (pow64 (relErr_zero h0) hx)]; simp
      have hst : itR R n (imgV R frm) = itR R (n - 1) (imgV R frm) := by
        obtain ⟨m, rfl⟩ : ∃ m, n = m + 1 := ⟨n - 1, by omega⟩
        rw [itR_comm, Nat.add_sub_cancel]
        exact itR_stable (relErr_zero h0) hsh.2 m _ hx (by omega)
      rw [hst] at h1
      obtain ⟨j, hj, h⟩ := (itR_bit h0 hl v (n - 1) _).1 h1
      exact ⟨j, by omega, (hit_img h0 hl s (j + 1) frm).2 ((meets_iff _ _).2 ⟨v, h, h2⟩)⟩
  · rintro ⟨K, hK, h⟩
    obtain ⟨v, h1, h2⟩ := (meets_iff _ _).1 ((hit_img h0 hl s (K + 1) frm).1 h)
    exact ⟨v, (itR_bit h0 hl v n _).2 ⟨K, by omega, h1⟩, h2⟩
/-- what a path is good for -/
theorem PathIs.ok {frm s : Nat} {p : List Nat} (hf : frm < 18446744073709551616) (h : PathIs R n frm s p) :
    (p = [] ∧ reachV R frm &&& s = 0) ∨ (reachV R frm &&& s ≠ 0 ∧ 2 ≤ p.length ∧ p.length ≤ n + 1 ∧ (∀ i, i < p.length → p.getD i 0 < n) ∧ (∀ i, i + 1 < p.length → bit R (p.getD i 0) (p.getD (i + 1) 0) = true) ∧
      frm.testBit (p.getD 0 0) = true ∧ s.testBit (p.getD (p.length - 1) 0) = true) := by
  rcases h with ⟨h1, _⟩ | ⟨_, h1, rfl⟩ | ⟨_, K, hK, _, h2, rfl⟩
  · exact absurd h0 h1
  · refine .inl ⟨rfl, Classical.byContradiction fun hn => ?_⟩
    obtain ⟨K, hK, h⟩ := (reach_iff h0 hl frm s).1 hn
    exact h (h1 K hK)
  · have hd := down_ok h0 hl (K + 1) frm (OnWay.start (K := K) hf h2)
    rw [down_len]
    exact .inr ⟨(reach_iff h0 hl frm s).2 ⟨K, hK, h2⟩, by omega, by omega, hd.1, hd.2.1, hd.2.2.1, hd.2.2.2⟩
end
end Go.Proofs.YtogjbghieoifjaaDoor
