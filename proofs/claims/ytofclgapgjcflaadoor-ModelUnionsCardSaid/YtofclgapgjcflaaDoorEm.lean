/- Layer 13: other names, and back. -/
import Derived.Test.YtofclgapgjcflaaDoorEh
namespace Go.Proofs.Ws
theorem pick_range {n : Nat} {m : Mo} (ok : OkM n m) : pickM m (List.range n) = m := by
  have hix : ∀ x, x < 2 ^ n → ix (List.range n) x = x := fun x hx => by
    unfold ix ixN
    rw [List.length_range]
    rw [bitsN_congr (q := fun i => x.testBit i) (fun i hi => by simp [hi]), bitsN_self hx]
  obtain ⟨mn, mv, mr⟩ := m
  have h1 : mn = (n : Int) := ok.num
  unfold pickM
  simp only [List.length_range, Mo.mk.injEq]
  refine ⟨h1.symm, ?_, ?_⟩
  · apply List.ext_getElem (by simp)
    intro i hi hi2
    rw [List.getElem_map]
    exact hix _ (ok.val _ (List.getElem_mem _))
  · apply List.ext_getElem (by simp)
    intro i hi hi2
    rw [List.getElem_map]
    have hr := ok.len _ (List.getElem_mem (l := mr) hi2)
    apply List.ext_getElem (by simpa using hr.symm)
    intro j hj hj2
    rw [List.getElem_map, List.getElem_range]
    have e : mr[i].getD j 0 = mr[i][j] := by simp [hj2]
    rw [e]
    exact hix _ (ok.rel _ (List.getElem_mem _) _ (List.getElem_mem _))
/-- the list of the numbers of a list that is turned -/
theorem inv_at {n : Nat} {tp : List Int} (h : PermL n tp) {w : Nat} (hw : w < n) : (invL n tp).getD (tp.getD w 0).toNat 0 = w := by
  have hr := h.rng w hw
  have h1 := h.inv.at_ (tp.getD w 0).toNat (by omega)
  exact h.inj _ _ h1.1 hw (by rw [h1.2]; omega)
theorem back_perm {n : Nat} {tp : List Int} (h : PermL n tp) : PermL n ((invL n tp).map (fun x : Nat => (x : Int))) := by
  have g : ∀ i, ((invL n tp).map (fun x : Nat => (x : Int))).getD i 0 = (((invL n tp).getD i 0 : Nat) : Int) := fun i => by
    rw [List.getD_eq_getElem?_getD, List.getD_eq_getElem?_getD, List.getElem?_map]
    cases (invL n tp)[i]? <;> rfl
  refine ⟨by rw [List.length_map, invL_len], fun i hi => ?_, fun i j hi hj e => ?_⟩
  · rw [g]
    have := (h.inv.at_ i hi).1
    omega
  · rw [g, g] at e
    have h1 := (h.inv.at_ i hi).2
    have h2 := (h.inv.at_ j hj).2
    rw [show (invL n tp).getD i 0 = (invL n tp).getD j 0 by omega] at h1
    omega
theorem back_inv {n : Nat} {tp : List Int} (h : PermL n tp) : invL n ((invL n tp).map (fun x : Nat => (x : Int))) = tp.map Int.toNat := by
  refine IsInv.unique (back_perm h) (back_perm h).inv ⟨by rw [List.length_map, h.len], fun i hi => ?_⟩
  have hr := h.rng i hi
  have e : (tp.map Int.toNat).getD i 0 = (tp.getD i 0).toNat := by
    rw [List.getD_eq_getElem?_getD, List.getD_eq_getElem?_getD, List.getElem?_map]
    cases tp[i]? <;> rfl
  have g : ∀ i, ((invL n tp).map (fun x : Nat => (x : Int))).getD i 0 = (((invL n tp).getD i 0 : Nat) : Int) := fun i => by
    rw [List.getD_eq_getElem?_getD, List.getD_eq_getElem?_getD, List.getElem?_map]
    cases (invL n tp)[i]? <;> rfl
  rw [e, g, inv_at h hi]
  exact ⟨by omega, rfl⟩
/-- what the law ModelNames needs of a list of numbers -/
structure NamesOk (n : Nat) (m nm : Mo) (tp : List Int) : Prop where
  num : nm.n = (n : Int)
  agents : nm.rel.length = m.rel.length
  facts : nm.val.length = m.val.length
  len : ∀ a, a < m.rel.length → (nm.rel.getD a []).length = n
  fact : ∀ w, w < n → factV nm (tp.getD w 0) = factV m (w : Int)
  bit : ∀ a w v, a < m.rel.length → w < n → v < n → ((nm.rel.getD a []).getD (tp.getD w 0).toNat 0).testBit (tp.getD v 0).toNat = ((m.rel.getD a []).getD w 0).testBit v
  small : ∀ a w, (nm.rel.getD a []).getD w 0 < 2 ^ n
  backE : renE nm ((invL n tp).map (fun x : Nat => (x : Int))) = 0
  backM : renM nm ((invL n tp).map (fun x : Nat => (x : Int))) = m
theorem names_ok {n : Nat} {m : Mo} {tp : List Int} (ok : OkM n m) (h : PermL n tp) : NamesOk n m (pickM m (invL n tp)) tp := by
  have hl := invL_len n tp
  have ok2 : OkM (invL n tp).length (pickM m (invL n tp)) := pick_ok ok (by rw [hl]; exact ok.pos) (by rw [hl]; exact ok.le)
  rw [hl] at ok2
  have hch := ok2.chk
  have e2 : (pickM m (invL n tp)).n.toNat = n := by rw [ok2.num]; rfl
  have hb : PermL n ((invL n tp).map (fun x : Nat => (x : Int))) := back_perm h
  have hrel : ∀ a, a < m.rel.length → (pickM m (invL n tp)).rel.getD a [] = (invL n tp).map (fun w => ix (invL n tp) ((m.rel.getD a []).getD w 0)) := fun a ha => by
    unfold pickM
    simp [ha]
  refine ⟨ok2.num, by unfold pickM; simp, by unfold pickM; simp, fun a ha => ?_, fun w hw => ?_, fun a w v ha hw hv => ?_, fun a w => relW_lt ok2.rel a w, ?_, ?_⟩
  · rw [hrel a ha, List.length_map, hl]
  · have hr := h.rng w hw
    have h1 := pick_fact (L := invL n tp) ok (by rw [hl]; exact ok.pos) (by rw [hl]; exact ok.le) (invL_lt h) (i := (tp.getD w 0).toNat) (by rw [hl]; omega)
    rw [inv_at h hw] at h1
    rw [← h1]
    congr 1
    omega
  · have hr := h.rng w hw
    have hrv := h.rng v hv
    rw [hrel a ha]
    have e : ((invL n tp).map (fun w => ix (invL n tp) ((m.rel.getD a []).getD w 0))).getD (tp.getD w 0).toNat 0 = ix (invL n tp) ((m.rel.getD a []).getD ((invL n tp).getD (tp.getD w 0).toNat 0) 0) := by
      have : (tp.getD w 0).toNat < (invL n tp).length := by rw [hl]; omega
      have e6 : (invL n tp).getD (tp.getD w 0).toNat 0 = (invL n tp)[(tp.getD w 0).toNat] := by rw [List.getD_eq_getElem?_getD, List.getElem?_eq_getElem this]; rfl
      rw [List.getD_eq_getElem?_getD, List.getElem?_map, List.getElem?_eq_getElem this, e6]
      rfl
    rw [e, inv_at h hw, ix_bit, inv_at h hv, decide_eq_true (by rw [hl]; omega)]; rfl
  · unfold renE
    rw [if_pos hch, e2, if_pos ((permB_iff n _).2 hb)]
  · unfold renM
    rw [e2, if_pos ⟨hch, (permB_iff n _).2 hb⟩, back_inv h, pick_pick]
    · have e : (tp.map Int.toNat).map (fun x => (invL n tp).getD x 0) = List.range n := by
        apply List.ext_getElem (by simp [h.len])
        intro i hi hi2
        have hin : i < n := by simpa using hi2
        have hit : i < tp.length := by rw [h.len]; exact hin
        have h3 := inv_at h hin
        have e4 : tp.getD i 0 = tp[i] := by simp [hit]
        rw [e4] at h3
        simp only [List.getElem_map, List.getElem_range]
        exact h3
      rw [e]
      exact pick_range ok
    · intro x hx
      obtain ⟨i, hi, rfl⟩ := List.getElem_of_mem hx
      have hin : i < n := by have := h.len; simpa [this] using hi
      have hr := h.rng i hin
      have hit : i < tp.length := by rw [h.len]; exact hin
      have e4 : tp.getD i 0 = tp[i] := by simp [hit]
      rw [e4] at hr
      rw [List.getElem_map, hl]
      omega
end Go.Proofs.Ws
