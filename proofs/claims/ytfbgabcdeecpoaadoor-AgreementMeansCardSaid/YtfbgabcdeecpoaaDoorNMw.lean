/- Layer 24: the mean of the posteriors. -/
import Derived.Test.YtfbgabcdeecpoaaDoorNMv
namespace Go.Proofs.YtfbgabcdeecpoaaDoor
open Go.RowKit Go.Proofs.Ws
set_option maxRecDepth 100000
theorem i64_natm (n : Nat) (h : n ≤ 1000000) : IntKind.i64.wrap (n : Int) = (n : Int) := by
  rw [IntWalk.i64_left]
  exact IntWalk.wrap64_in _ ⟨by omega, by omega⟩
theorem wrap64_natm (n : Nat) (h : n ≤ 1000000) : wrap64 (n : Int) = (n : Int) := IntWalk.wrap64_in _ ⟨by omega, by omega⟩
/-- what the law adds up, below the world k -/
def meanS (p : Pri) (a s k : Nat) : Nat := sumN (fun u => if fo (p.cells.getD a []) u = u then wOf p.wt (blkV (p.cells.getD a []) (u : Int) &&& s) else 0) k
theorem meanS_succ (p : Pri) (a s k : Nat) : meanS p a s (k + 1) = meanS p a s k + (if fo (p.cells.getD a []) k = k then wOf p.wt (blkV (p.cells.getD a []) (k : Int) &&& s) else 0) := rfl
theorem meanS_full {p : Pri} (h : OkP p) {a s : Nat} (ha : a < p.cells.length) : meanS p a s p.wt.length = wOf p.wt s := by
  have hc := h.can ha
  have hlt : ∀ i, i < p.wt.length → fo (p.cells.getD a []) i < p.wt.length := fun i hi => Nat.lt_of_le_of_lt ((part_forest hc.ok).le i) hi
  unfold meanS
  have g := sumN_group (wAt p.wt s) (fo (p.cells.getD a [])) p.wt.length p.wt.length hlt
  show _ = wsum p.wt s p.wt.length
  unfold wsum
  rw [← g]
  refine sumN_congr fun r hr => ?_
  by_cases e : fo (p.cells.getD a []) r = r
  · rw [if_pos e]
    unfold wOf wsum
    refine sumN_congr fun i hi => ?_
    unfold wAt
    rw [Nat.testBit_and, blk_test hc hr hi, e]
    by_cases e2 : fo (p.cells.getD a []) i = r
    · rw [if_pos e2, decide_eq_true e2]; simp
    · rw [if_neg e2, decide_eq_false e2]; simp
  · rw [if_neg e]
    refine (sumN_zero fun i hi => ?_).symm
    rw [if_neg]
    intro e2
    exact e (by rw [← e2]; exact hc.idem i)
theorem meanS_le {p : Pri} (h : OkP p) {a s k : Nat} (ha : a < p.cells.length) (hk : k ≤ p.wt.length) : meanS p a s k ≤ 64000 := by
  have h1 : meanS p a s k ≤ meanS p a s p.wt.length := by
    have hm : ∀ j k, k ≤ j → meanS p a s k ≤ meanS p a s j := fun j k hkj => by
      induction j with
      | zero => obtain rfl : k = 0 := by omega
                exact Nat.le_refl _
      | succ j ih =>
        by_cases e : k = j + 1
        · rw [e]; exact Nat.le_refl _
        · rw [meanS_succ]
          exact Nat.le_trans (ih (by omega)) (Nat.le_add_right _ _)
    exact hm _ _ hk
  rw [meanS_full h ha] at h1
  exact Nat.le_trans h1 (wOf_le h s)
/-- a posterior's parts -/
theorem post_parts {p : Pri} (h : OkP p) {a u s : Nat} (ha : a < p.cells.length) (hu : u < p.wt.length) :
    0 < (postN p a u s).2 ∧ (postN p a u s).1 ≤ (postN p a u s).2 ∧ wOf p.wt (blkV (p.cells.getD a []) (u : Int)) % (postN p a u s).2 = 0 ∧
    wOf p.wt (blkV (p.cells.getD a []) (u : Int)) / (postN p a u s).2 * (postN p a u s).1 = wOf p.wt (blkV (p.cells.getD a []) (u : Int) &&& s) := by
  have hy : 0 < wOf p.wt (blkV (p.cells.getD a []) (u : Int)) := wOf_pos h hu (by rw [blk_test (h.can ha) hu hu]; exact decide_eq_true rfl)
  have hle : wOf p.wt (blkV (p.cells.getD a []) (u : Int) &&& s) ≤ wOf p.wt (blkV (p.cells.getD a []) (u : Int)) := by
    unfold wOf wsum
    refine sumN_mono fun i hi => ?_
    unfold wAt
    rw [Nat.testBit_and]
    cases (blkV (p.cells.getD a []) (u : Int)).testBit i <;> cases s.testBit i <;> simp
  unfold postN redN
  generalize wOf p.wt (blkV (p.cells.getD a []) (u : Int) &&& s) = x at *
  generalize wOf p.wt (blkV (p.cells.getD a []) (u : Int)) = y at *
  have hg : 0 < Nat.gcd x y := Nat.gcd_pos_of_pos_right x hy
  obtain ⟨k1, hk1⟩ := Nat.gcd_dvd_left x y
  obtain ⟨k2, hk2⟩ := Nat.gcd_dvd_right x y
  generalize Nat.gcd x y = g at *
  subst hk1 hk2
  have e1 : g * k1 / g = k1 := Nat.mul_div_cancel_left k1 hg
  have e2 : g * k2 / g = k2 := Nat.mul_div_cancel_left k2 hg
  have hk2p : 0 < k2 := Nat.pos_of_ne_zero (fun e => by subst e; simp at hy)
  dsimp only
  rw [e1, e2]
  refine ⟨hk2p, Nat.le_of_mul_le_mul_left hle hg, Nat.mul_mod_left _ _, ?_⟩
  rw [Nat.mul_div_cancel _ hk2p]
/-- posteriors are the same in a cell -/
theorem post_cell {p : Pri} (h : OkP p) {a u s : Nat} (ha : a < p.cells.length) (hu : u < p.wt.length) : fo (p.cells.getD a []) u < p.wt.length ∧ postN p a (fo (p.cells.getD a []) u) s = postN p a u s := by
  have hc := h.can ha
  have hf : fo (p.cells.getD a []) u < p.wt.length := Nat.lt_of_le_of_lt ((part_forest hc.ok).le u) hu
  refine ⟨hf, ?_⟩
  have e : blkV (p.cells.getD a []) ((fo (p.cells.getD a []) u : Nat) : Int) = blkV (p.cells.getD a []) (u : Int) := by
    unfold blkV
    have hl := hc.len
    rw [if_pos ⟨hc.ok, by omega, by omega⟩, if_pos ⟨hc.ok, by omega, by omega⟩]
    have h1 := (part_forest hc.ok).at_ (i := fo (p.cells.getD a []) u) (by omega)
    have h2 := (part_forest hc.ok).at_ (i := u) (by omega)
    rw [Int.toNat_natCast, Int.toNat_natCast, h1, h2, hc.idem u]
  unfold postN
  rw [e]
end Go.Proofs.YtfbgabcdeecpoaaDoor
