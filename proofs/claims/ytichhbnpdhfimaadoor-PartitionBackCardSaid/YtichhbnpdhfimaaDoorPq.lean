/- Mathematics of chains: what is reached from a point over the blocks of two partitions is its block in their join. -/
import Derived.Test.YtichhbnpdhfimaaDoorPo
namespace Go.Proofs.YtichhbnpdhfimaaDoor
open Go.RowKit Go.Proofs.Ws
def stepC (a b : List Int) (k R : Nat) : Nat := if R.testBit k then R ||| (blkV a (k : Int) ||| blkV b (k : Int)) else R
def passC (a b : List Int) : Nat → Nat → Nat
  | 0, R => R
  | k + 1, R => stepC a b k (passC a b k R)
def iterC (a b : List Int) (n : Nat) : Nat → Nat → Nat
  | 0, R => R
  | t + 1, R => passC a b n (iterC a b n t R)
theorem blk_bit {n : Nat} {p : List Int} (h : Can n p) {i : Nat} (hi : i < n) (v : Nat) : (blkV p (i : Int)).testBit v = true ↔ v < n ∧ fo p v = fo p i := by
  have hl := h.len
  have hf := part_forest h.ok
  unfold blkV
  rw [if_pos ⟨h.ok, by omega, by omega⟩, cls_bit, Int.toNat_natCast, hl]
  constructor
  · rintro ⟨h1, h2⟩
    rw [hf.at_ (by omega), hf.at_ (by omega)] at h2
    exact ⟨h1, by omega⟩
  · rintro ⟨h1, h2⟩
    rw [hf.at_ (by omega), hf.at_ (by omega), h2]
    exact ⟨h1, rfl⟩
theorem stepC_bit {a b : List Int} {n : Nat} (ha : Can n a) (hb : Can n b) {k : Nat} (hk : k < n) (R v : Nat) :
    (stepC a b k R).testBit v = true ↔ R.testBit v = true ∨ (R.testBit k = true ∧ v < n ∧ (fo a v = fo a k ∨ fo b v = fo b k)) := by
  unfold stepC
  split
  · rename_i h
    rw [Nat.testBit_or, Nat.testBit_or, Bool.or_eq_true, Bool.or_eq_true, blk_bit ha hk, blk_bit hb hk]
    constructor
    · rintro (h1 | ⟨h1, h2⟩ | ⟨h1, h2⟩)
      · exact .inl h1
      · exact .inr ⟨h, h1, .inl h2⟩
      · exact .inr ⟨h, h1, .inr h2⟩
    · rintro (h1 | ⟨_, h1, h2 | h2⟩)
      · exact .inl h1
      · exact .inr (.inl ⟨h1, h2⟩)
      · exact .inr (.inr ⟨h1, h2⟩)
  · rename_i h
    exact ⟨.inl, fun h1 => h1.elim id (fun h2 => absurd h2.1 h)⟩
def SoundC (j : List Int) (n i R : Nat) : Prop := R.testBit i = true ∧ ∀ v, R.testBit v = true → v < n ∧ fo j v = fo j i
section
variable {n : Nat} {a b j : List Int} (ha : Can n a) (hb : Can n b)
include ha hb
theorem stepC_sound (hj : Lub n a b j) {i k R : Nat} (hk : k < n) (h : SoundC j n i R) : SoundC j n i (stepC a b k R) := by
  refine ⟨(stepC_bit ha hb hk R i).2 (.inl h.1), fun v hv => ?_⟩
  rcases (stepC_bit ha hb hk R v).1 hv with h1 | ⟨h1, h2, h3 | h3⟩
  · exact h.2 v h1
  · exact ⟨h2, by rw [← hj.l v, h3, hj.l k]; exact (h.2 k h1).2⟩
  · exact ⟨h2, by rw [← hj.r v, h3, hj.r k]; exact (h.2 k h1).2⟩
theorem passC_sound (hj : Lub n a b j) {i R : Nat} (h : SoundC j n i R) : ∀ k, k ≤ n → SoundC j n i (passC a b k R)
  | 0, _ => h
  | k + 1, hk => stepC_sound ha hb hj hk (passC_sound hj h k (by omega))
theorem iterC_sound (hj : Lub n a b j) {i R : Nat} (h : SoundC j n i R) : ∀ t, SoundC j n i (iterC a b n t R)
  | 0 => h
  | t + 1 => passC_sound ha hb hj (iterC_sound hj h t) n (Nat.le_refl _)
theorem passC_mono (R v : Nat) (h : R.testBit v = true) : ∀ k, k ≤ n → (passC a b k R).testBit v = true
  | 0, _ => h
  | k + 1, hk => (stepC_bit ha hb hk _ v).2 (.inl (passC_mono R v h k (by omega)))
theorem passC_fix (R : Nat) : ∀ K, K ≤ n → passC a b K R = R → ∀ k, k < K → stepC a b k R = R
  | 0, _, _ => fun k hk => by omega
  | K + 1, hK, h => by
    have e : passC a b K R = R := by
      apply Nat.eq_of_testBit_eq
      intro v
      rw [Bool.eq_iff_iff]
      constructor
      · intro h1
        rw [← h]
        exact (stepC_bit ha hb hK _ v).2 (.inl h1)
      · intro h1
        exact passC_mono ha hb R v h1 K (by omega)
    intro k hk
    by_cases hkK : k < K
    · exact passC_fix R K (by omega) e k hkK
    · obtain rfl : k = K := by omega
      have h' : stepC a b k (passC a b k R) = R := h
      rw [e] at h'
      exact h'
end
def cntB (R : Nat) : Nat → Nat
  | 0 => 0
  | k + 1 => cntB R k + if R.testBit k then 1 else 0
theorem cntB_le (R : Nat) : ∀ k, cntB R k ≤ k
  | 0 => Nat.le_refl _
  | k + 1 => by
    have := cntB_le R k
    unfold cntB
    split <;> omega
theorem cntB_mono {R S : Nat} (h : ∀ v, R.testBit v = true → S.testBit v = true) : ∀ k, cntB R k ≤ cntB S k
  | 0 => Nat.le_refl _
  | k + 1 => by
    have := cntB_mono h k
    have := h k
    unfold cntB
    by_cases h1 : R.testBit k = true
    · rw [if_pos h1, if_pos (h k h1)]; omega
    · rw [if_neg h1]; omega
theorem cntB_more {R S v : Nat} (h : ∀ v, R.testBit v = true → S.testBit v = true) (h1 : S.testBit v = true) (h2 : ¬ R.testBit v = true) : ∀ k, v < k → cntB R k < cntB S k
  | 0, hv => by omega
  | k + 1, hv => by
    unfold cntB
    by_cases hk : v = k
    · subst hk
      have := cntB_mono h v
      rw [if_pos h1, if_neg h2]; omega
    · have := cntB_more h h1 h2 k (by omega)
      by_cases h3 : R.testBit k = true
      · rw [if_pos h3, if_pos (h k h3)]; omega
      · rw [if_neg h3]; omega
theorem cntB_pos {R i : Nat} (h : R.testBit i = true) : ∀ k, i < k → 1 ≤ cntB R k
  | 0, hv => by omega
  | k + 1, hv => by
    unfold cntB
    by_cases hk : i = k
    · subst hk
      rw [if_pos h]; omega
    · have := cntB_pos h k (by omega)
      omega
theorem iterC_fix {n : Nat} {a b j : List Int} (ha : Can n a) (hb : Can n b) (hj : Lub n a b j) {i R : Nat} (hi : i < n) (h : SoundC j n i R) : ∀ t, passC a b n (iterC a b n t R) = iterC a b n t R ∨ t + 1 ≤ cntB (iterC a b n t R) n
  | 0 => .inr (cntB_pos h.1 n hi)
  | t + 1 => by
    rcases iterC_fix ha hb hj hi h t with h1 | h1
    · refine .inl ?_
      show passC a b n (passC a b n (iterC a b n t R)) = passC a b n (iterC a b n t R)
      rw [h1, h1]
    · by_cases e : passC a b n (iterC a b n t R) = iterC a b n t R
      · refine .inl ?_
        show passC a b n (passC a b n (iterC a b n t R)) = passC a b n (iterC a b n t R)
        rw [e, e]
      · refine .inr ?_
        show t + 1 + 1 ≤ cntB (passC a b n (iterC a b n t R)) n
        have hs := passC_sound ha hb hj (iterC_sound ha hb hj h t) n (Nat.le_refl _)
        generalize iterC a b n t R = S at *
        have hm : ∀ v, S.testBit v = true → (passC a b n S).testBit v = true := fun v hv => passC_mono ha hb S v hv n (Nat.le_refl _)
        have hx : ∃ v, (passC a b n S).testBit v = true ∧ ¬ S.testBit v = true := by
          refine Classical.byContradiction fun hno => e (Nat.eq_of_testBit_eq fun v => ?_)
          rw [Bool.eq_iff_iff]
          exact ⟨fun h2 => Classical.byContradiction fun h3 => hno ⟨v, h2, h3⟩, hm v⟩
        obtain ⟨v, h2, h3⟩ := hx
        have := cntB_more hm h2 h3 n (hs.2 v h2).1
        omega
theorem bit_two (i v : Nat) : (2 ^ i).testBit v = true ↔ v = i := by
  rw [Nat.testBit_two_pow]
  simp only [decide_eq_true_eq]
  exact eq_comm
theorem chains_block {n : Nat} {a b j : List Int} (ha : Can n a) (hb : Can n b) (hj : Lub n a b j) {i : Nat} (hi : i < n) : iterC a b n n (2 ^ i) = blkV j (i : Int) := by
  have h0 : SoundC j n i (2 ^ i) := ⟨(bit_two i i).2 rfl, fun v hv => by rw [(bit_two i v).1 hv]; exact ⟨hi, rfl⟩⟩
  have hs := iterC_sound ha hb hj h0 n
  have hf : passC a b n (iterC a b n n (2 ^ i)) = iterC a b n n (2 ^ i) := by
    rcases iterC_fix ha hb hj hi h0 n with h | h
    · exact h
    · have := cntB_le (iterC a b n n (2 ^ i)) n
      omega
  generalize iterC a b n n (2 ^ i) = R at *
  have hc := passC_fix ha hb R n (Nat.le_refl _) hf
  have hcl : ∀ k v, k < n → R.testBit k = true → v < n → (fo a v = fo a k ∨ fo b v = fo b k) → R.testBit v = true := fun k v hk h1 h2 h3 => by
    rw [← hc k hk]
    exact (stepC_bit ha hb hk R v).2 (.inr ⟨h1, h2, h3⟩)
  have hq : ∀ v, v < n → fo ((List.range n).map (fun v => if R.testBit v then (0 : Int) else 1)) v = if R.testBit v then 0 else 1 := fun v hv => by
    unfold fo
    rw [if_pos (by simpa using hv), List.getD_eq_getElem?_getD, List.getElem?_map, List.getElem?_range hv]
    show (if R.testBit v then (0 : Int) else 1).toNat = _
    split <;> rfl
  have hrf : ∀ p, Can n p → (∀ k v, k < n → R.testBit k = true → v < n → fo p v = fo p k → R.testBit v = true) → Rf p ((List.range n).map (fun v => if R.testBit v then (0 : Int) else 1)) := fun p hp hcl v => by
    by_cases hv : v < n
    · have hv' := fo_lt (part_forest hp.ok) hv
      rw [hq _ hv', hq _ hv]
      have e : R.testBit (fo p v) = R.testBit v := by
        rw [Bool.eq_iff_iff]
        exact ⟨fun h => hcl _ v hv' h hv (hp.idem v).symm, fun h => hcl v _ hv h hv' (hp.idem v)⟩
      rw [e]
    · rw [fo_out hp.len hv]
  have hjq := hj.least _ (hrf a ha fun k v h1 h2 h3 h4 => hcl k v h1 h2 h3 (.inl h4)) (hrf b hb fun k v h1 h2 h3 h4 => hcl k v h1 h2 h3 (.inr h4))
  apply Nat.eq_of_testBit_eq
  intro v
  rw [Bool.eq_iff_iff, blk_bit hj.can hi]
  refine ⟨hs.2 v, fun ⟨h1, h2⟩ => ?_⟩
  have e1 := hjq v
  have e2 := hjq i
  rw [h2, e2, hq _ hi, hq _ h1, if_pos hs.1] at e1
  by_cases h3 : R.testBit v = true
  · exact h3
  · rw [if_neg h3] at e1
    exact absurd e1 (by decide)
theorem stepC_lt {a b : List Int} (k R : Nat) (h : R < 18446744073709551616) (h1 : blkV a (k : Int) < 18446744073709551616) (h2 : blkV b (k : Int) < 18446744073709551616) : stepC a b k R < 18446744073709551616 := by
  unfold stepC
  split
  · exact Nat.or_lt_two_pow (n := 64) h (Nat.or_lt_two_pow (n := 64) h1 h2)
  · exact h
end Go.Proofs.YtichhbnpdhfimaaDoor
