/- The four steps of the program and the two of the reference are steps of closures; the reference's reflexive and symmetric closures are the least ones. -/
import Derived.Test.YtogjbghieoifjaaDoorBd
import Derived.Test.YtogjbghieoifjaaDoorRl
namespace Go.Proofs.YtogjbghieoifjaaDoor
open Go.RowKit Go.Proofs.Ws
theorem sh_getD {m : Nat} {l : List Nat} (h : Sh m l) (k : Nat) : l.getD k 0 < 2 ^ m := by
  rw [List.getD_eq_getElem?_getD]
  by_cases hk : k < l.length
  · rw [List.getElem?_eq_getElem hk]; exact h.2 _ (List.getElem_mem hk)
  · rw [List.getElem?_eq_none (by omega)]; exact Nat.two_pow_pos m
theorem foldOr_bit (R : List Nat) (b : Nat) : ∀ (ks : List Nat) (a : Nat), (ks.foldl (fun a k => a ||| R.getD k 0) a).testBit b = true ↔ a.testBit b = true ∨ ∃ u, u ∈ ks ∧ bit R u b = true
  | [], a => by simp
  | k :: ks, a => by
    rw [List.foldl_cons, foldOr_bit R b ks, Nat.testBit_or, Bool.or_eq_true]
    unfold bit
    constructor
    · rintro ((h | h) | ⟨u, hu, h⟩)
      · exact .inl h
      · exact .inr ⟨k, by simp, h⟩
      · exact .inr ⟨u, by simp [hu], h⟩
    · rintro (h | ⟨u, hu, h⟩)
      · exact .inl (.inl h)
      · rcases List.mem_cons.1 hu with rfl | hu
        · exact .inl (.inr h)
        · exact .inr ⟨u, hu, h⟩
theorem bit_len {R : List Nat} {u b : Nat} (h : bit R u b = true) : u < R.length := by
  apply Classical.byContradiction
  intro hn
  unfold bit at h
  rw [List.getD_eq_getElem?_getD, List.getElem?_eq_none (by omega)] at h
  simp at h
theorem imgV_bit (R : List Nat) (x b : Nat) (h : R.length ≤ 64) : (imgV R x).testBit b = true ↔ ∃ u, x.testBit u = true ∧ bit R u b = true := by
  unfold imgV imgL
  rw [foldOr_bit, mem_below x _ h]
  simp only [Nat.zero_testBit, Bool.false_eq_true, false_or, List.mem_filter, List.mem_range]
  exact ⟨fun ⟨u, ⟨_, h1⟩, h2⟩ => ⟨u, h1, h2⟩, fun ⟨u, h1, h2⟩ => ⟨u, ⟨bit_len h2, h1⟩, h2⟩⟩
def reflL (l : List Nat) (k : Nat) : List Nat := l.set k (l.getD k 0 ||| p2 k)
def transL (l : List Nat) (k : Nat) : List Nat := l.set k (l.getD k 0 ||| imgV l (l.getD k 0))
theorem p2_in {w m : Nat} (h : w < m) : p2 w < 2 ^ m := Nat.pow_lt_pow_right (by decide) h
theorem bit_mixL (p : Nat → Bool) (f g : Nat → Nat) (m a b : Nat) (h : a < m) : bit (mixL p f g m) a b = (if p a then f a else g a).testBit b := by
  unfold bit; rw [mixL_getD _ _ _ _ _ h]
theorem mixL_sh {m : Nat} (p : Nat → Bool) (f g : Nat → Nat) (hf : ∀ v, v < m → f v < 2 ^ m) (hg : ∀ v, v < m → g v < 2 ^ m) : Sh m (mixL p f g m) :=
  ⟨mixL_length _ _ _ _, fun x hx => by
    unfold mixL at hx
    obtain ⟨v, hv, rfl⟩ := List.mem_map.1 hx
    have hv := List.mem_range.1 hv
    split
    · exact hf v hv
    · exact hg v hv⟩
theorem reflL_bit {m : Nat} (l : List Nat) (w a b : Nat) (hl : Sh m l) (hw : w < m) : bit (reflL l w) a b = true ↔ bit l a b = true ∨ (a = w ∧ b = w) := by
  unfold reflL
  rw [bit_set l w _ a b (by rw [hl.1]; exact hw)]
  split
  · rename_i e
    subst e
    rw [Nat.testBit_or, p2_bit, Bool.or_eq_true, decide_eq_true_eq]
    unfold bit
    exact or_congr Iff.rfl ⟨fun h => ⟨rfl, h.symm⟩, fun h => h.2.symm⟩
  · rename_i e
    exact ⟨.inl, fun h => h.elim id (fun h => absurd h.1 e)⟩
theorem reflL_steps (m : Nat) : Ws.Steps m (PRefl m) reflL :=
  steps_refl (fun _l w hl hw => hl.set w _ (Nat.or_lt_two_pow (sh_getD hl w) (p2_in hw))) (fun l w a b hl hw => reflL_bit l w a b hl hw)
theorem transL_steps (m : Nat) (hm : m ≤ 64) : Ws.Steps m PTrans transL :=
  steps_trans (fun l w hl hw => hl.set w _ (Nat.or_lt_two_pow (sh_getD hl w) (imgV_in hl.2 _))) (fun l w a b hl hw => by
    unfold transL
    rw [bit_set l w _ a b (by rw [hl.1]; exact hw)]
    split
    · rename_i e
      subst e
      rw [Nat.testBit_or, Bool.or_eq_true, imgV_bit _ _ _ (by rw [hl.1]; exact hm)]
      unfold bit
      exact or_congr Iff.rfl ⟨fun h => ⟨rfl, h⟩, fun h => h.2⟩
    · rename_i e
      exact ⟨.inl, fun h => h.elim id (fun h => absurd h.1 e)⟩)
theorem symL_steps (m : Nat) : Ws.Steps m PSym (fun l k => symL l k m) :=
  steps_sym (fun l w hl hw => mixL_sh _ _ _ (fun v _ => Nat.or_lt_two_pow (sh_getD hl v) (p2_in hw)) (fun v _ => sh_getD hl v)) (fun l w a b hl hw => by
    show bit (symL l w m) a b = true ↔ _
    by_cases ha : a < m
    · unfold symL
      rw [bit_mixL _ _ _ _ _ _ ha]
      unfold bit
      split
      · rename_i h
        rw [Nat.testBit_or, p2_bit, Bool.or_eq_true, decide_eq_true_eq]
        exact or_congr Iff.rfl ⟨fun e => ⟨e.symm, h⟩, fun e => e.1.symm⟩
      · rename_i h
        exact ⟨.inl, fun e => e.elim id (fun e => absurd e.2 h)⟩
    · constructor
      · intro h
        have := bit_len h
        unfold symL at this
        rw [mixL_length] at this
        exact absurd this ha
      · rintro (h | ⟨_, h⟩)
        · exact absurd (bit_in hl h).1 ha
        · exact absurd (bit_in hl h).2 ha)
theorem euclL_steps (m : Nat) : Ws.Steps m PEucl (fun l k => euclL l k m) :=
  steps_eucl (fun l w hl hw => mixL_sh _ _ _ (fun v _ => Nat.or_lt_two_pow (sh_getD hl v) (sh_getD hl w)) (fun v _ => sh_getD hl v)) (fun l w a b hl hw => by
    show bit (euclL l w m) a b = true ↔ _
    by_cases ha : a < m
    · unfold euclL
      rw [bit_mixL _ _ _ _ _ _ ha]
      unfold bit
      split
      · rename_i h
        rw [Nat.testBit_or, Bool.or_eq_true]
        exact or_congr Iff.rfl ⟨fun e => ⟨h, e⟩, fun e => e.2⟩
      · rename_i h
        exact ⟨.inl, fun e => e.elim id (fun e => absurd e.1 h)⟩
    · constructor
      · intro h
        have := bit_len h
        unfold euclL at this
        rw [mixL_length] at this
        exact absurd this ha
      · rintro (h | ⟨h, _⟩)
        · exact absurd (bit_in hl h).1 ha
        · exact absurd (bit_in hl h).2 ha)
/-- the reference's steps: at one pair of points -/
def growT (l : List Nat) (w u : Nat) : List Nat := if (l.getD w 0).testBit u then l.set w (l.getD w 0 ||| l.getD u 0) else l
def growE (l : List Nat) (w u : Nat) : List Nat := if (l.getD w 0).testBit u then l.set u (l.getD u 0 ||| l.getD w 0) else l
theorem growT_bit {m : Nat} (l : List Nat) (w u a b : Nat) (hl : Sh m l) (hw : w < m) : bit (growT l w u) a b = true ↔ bit l a b = true ∨ (a = w ∧ bit l w u = true ∧ bit l u b = true) := by
  unfold growT
  split
  · rename_i h
    rw [bit_set l w _ a b (by rw [hl.1]; exact hw)]
    split
    · rename_i e
      subst e
      rw [Nat.testBit_or, Bool.or_eq_true]
      exact or_congr Iff.rfl ⟨fun e => ⟨rfl, h, e⟩, fun e => e.2.2⟩
    · rename_i e
      exact ⟨.inl, fun h => h.elim id (fun h => absurd h.1 e)⟩
  · rename_i h
    exact ⟨.inl, fun e => e.elim id (fun e => absurd e.2.1 h)⟩
theorem growE_bit {m : Nat} (l : List Nat) (w u a b : Nat) (hl : Sh m l) (hu : u < m) : bit (growE l w u) a b = true ↔ bit l a b = true ∨ (a = u ∧ bit l w u = true ∧ bit l w b = true) := by
  unfold growE
  split
  · rename_i h
    rw [bit_set l u _ a b (by rw [hl.1]; exact hu)]
    split
    · rename_i e
      subst e
      rw [Nat.testBit_or, Bool.or_eq_true]
      exact or_congr Iff.rfl ⟨fun e => ⟨rfl, h, e⟩, fun e => e.2.2⟩
    · rename_i e
      exact ⟨.inl, fun h => h.elim id (fun h => absurd h.1 e)⟩
  · rename_i h
    exact ⟨.inl, fun e => e.elim id (fun e => absurd e.2.1 h)⟩
theorem growT_sh {m : Nat} (l : List Nat) (w u : Nat) (hl : Sh m l) : Sh m (growT l w u) := by
  unfold growT
  split
  · exact hl.set w _ (Nat.or_lt_two_pow (sh_getD hl w) (sh_getD hl u))
  · exact hl
theorem growE_sh {m : Nat} (l : List Nat) (w u : Nat) (hl : Sh m l) : Sh m (growE l w u) := by
  unfold growE
  split
  · exact hl.set u _ (Nat.or_lt_two_pow (sh_getD hl u) (sh_getD hl w))
  · exact hl
theorem growT_grows (m w : Nat) (hw : w < m) : Grows m (fun l u => growT l w u) :=
  Grows.of_bits (fun l u a b => a = w ∧ bit l w u = true ∧ bit l u b = true) (fun l u hl _ => growT_sh l w u hl) (fun l u a b hl _ => growT_bit l w u a b hl hw) (fun _l _s _u _a _b hle h => ⟨h.1, hle _ _ h.2.1, hle _ _ h.2.2⟩)
theorem growE_grows (m w : Nat) : Grows m (fun l u => growE l w u) :=
  Grows.of_bits (fun l u a b => a = u ∧ bit l w u = true ∧ bit l w b = true) (fun l u hl _ => growE_sh l w u hl) (fun l u a b hl hu => growE_bit l w u a b hl hu) (fun _l _s _u _a _b hle h => ⟨h.1, hle _ _ h.2.1, hle _ _ h.2.2⟩)
def passT (m : Nat) (l : List Nat) (w : Nat) : List Nat := run (fun l u => growT l w u) l m
def passE (m : Nat) (l : List Nat) (w : Nat) : List Nat := run (fun l u => growE l w u) l m
theorem passT_steps (m : Nat) : Ws.Steps m PTrans (passT m) :=
  (Grows.pass (g := growT) (fun w hw => growT_grows m w hw)).steps (fun l hl => by
    show (∀ w, w < m → run (fun l u => growT l w u) l m = l) ↔ _
    rw [pass_fixed (g := growT) (fun w hw => growT_grows m w hw) hl]
    constructor
    · intro H w v u h1 h2
      have hw := (bit_in hl h1).1
      have hv := (bit_in hl h1).2
      have := (growT_bit l w v w u hl hw).2 (.inr ⟨rfl, h1, h2⟩)
      rwa [H w hw v hv] at this
    · intro H w hw u hu
      refine Le.antisymm (growT_sh l w u hl) hl (fun a b h => ?_) (fun a b h => (growT_bit l w u a b hl hw).2 (.inl h))
      rcases (growT_bit l w u a b hl hw).1 h with h | ⟨rfl, h1, h2⟩
      · exact h
      · exact H _ _ _ h1 h2)
theorem passE_steps (m : Nat) : Ws.Steps m PEucl (passE m) :=
  (Grows.pass (g := growE) (fun w _ => growE_grows m w)).steps (fun l hl => by
    show (∀ w, w < m → run (fun l u => growE l w u) l m = l) ↔ _
    rw [pass_fixed (g := growE) (fun w _ => growE_grows m w) hl]
    constructor
    · intro H w v u h1 h2
      have hw := (bit_in hl h1).1
      have hv := (bit_in hl h1).2
      have := (growE_bit l w v v u hl hv).2 (.inr ⟨rfl, h1, h2⟩)
      rwa [H w hw v hv] at this
    · intro H w hw u hu
      refine Le.antisymm (growE_sh l w u hl) hl (fun a b h => ?_) (fun a b h => (growE_bit l w u a b hl hu).2 (.inl h))
      rcases (growE_bit l w u a b hl hu).1 h with h | ⟨rfl, h1, h2⟩
      · exact h
      · exact H _ _ _ h1 h2)
/-- the reference's symmetric closure is the least one -/
theorem convV_bit (R : List Nat) (a b : Nat) : bit (convV R) a b = true ↔ bit R b a = true ∧ a < R.length := by
  have key : ∀ n, n ≤ R.length → ((colU R a n).testBit b = true ↔ b < n ∧ bit R b a = true) := by
    intro n
    induction n with
    | zero => intro _; simp [colU]
    | succ n ih =>
      intro hn
      rw [colU_succ]
      have ih := ih (by omega)
      split
      · rename_i h
        rw [Nat.testBit_or, Bool.or_eq_true, ih, p2_bit, decide_eq_true_eq]
        constructor
        · rintro (⟨h1, h2⟩ | rfl)
          · exact ⟨by omega, h2⟩
          · exact ⟨by omega, h⟩
        · rintro ⟨h1, h2⟩
          by_cases e : n = b
          · exact .inr e
          · exact .inl ⟨by omega, h2⟩
      · rename_i h
        rw [ih]
        constructor
        · rintro ⟨h1, h2⟩; exact ⟨by omega, h2⟩
        · rintro ⟨h1, h2⟩
          by_cases e : b = n
          · subst e; exact absurd h2 h
          · exact ⟨by omega, h2⟩
  by_cases ha : a < R.length
  · have e : bit (convV R) a b = (colU R a R.length).testBit b := by
      unfold bit convV
      rw [List.getD_eq_getElem?_getD, List.getElem?_map, List.getElem?_range ha]; rfl
    rw [e, key _ (Nat.le_refl _)]
    exact ⟨fun h => ⟨h.2, ha⟩, fun h => ⟨bit_len h.1, h.1⟩⟩
  · constructor
    · intro h; have := bit_len h; rw [conv_len] at this; exact absurd this ha
    · rintro ⟨_, h⟩; exact absurd h ha
theorem symV_bit {m : Nat} (R : List Nat) (hR : Sh m R) (a b : Nat) : bit (symV R) a b = true ↔ bit R a b = true ∨ bit R b a = true := by
  by_cases ha : a < R.length
  · have e : bit (symV R) a b = (bit R a b || bit (convV R) a b) := by
      unfold bit symV unionV
      rw [List.getD_eq_getElem?_getD, List.getElem?_map, List.getElem?_range ha]
      exact Nat.testBit_or _ _ _
    rw [e, Bool.or_eq_true, convV_bit]
    exact or_congr Iff.rfl ⟨fun h => h.1, fun h => ⟨h, ha⟩⟩
  · constructor
    · intro h; have := bit_len h; unfold symV unionV at this; simp at this; exact absurd this ha
    · rintro (h | h)
      · exact absurd (bit_len h) ha
      · have := (bit_in hR h).2; rw [← hR.1] at this; exact absurd this ha
theorem symV_clo {m : Nat} (R : List Nat) (hR : Sh m R) : IsClo m PSym R (symV R) where
  sh := ⟨by simp [symV, unionV, hR.1], fun x hx => by
    unfold symV unionV at hx
    obtain ⟨v, _, rfl⟩ := List.mem_map.1 hx
    have hc : Sh m (convV R) := ⟨by rw [conv_len, hR.1], by rw [← hR.1]; exact conv_in R⟩
    exact Nat.or_lt_two_pow (sh_getD hR v) (sh_getD hc v)⟩
  up := fun a b h => (symV_bit R hR a b).2 (.inl h)
  has := fun w v h => (symV_bit R hR v w).2 ((symV_bit R hR w v).1 h).symm
  least := fun s _ hp hle a b h => ((symV_bit R hR a b).1 h).elim (hle a b) (fun h => hp _ _ (hle _ _ h))
theorem reflV_bit {m : Nat} (R : List Nat) (hR : Sh m R) (a b : Nat) : ∀ k, k ≤ m → (bit (run reflL R k) a b = true ↔ bit R a b = true ∨ (a = b ∧ a < k))
  | 0, _ => by simp [run]
  | k + 1, hk => by
    rw [run_succ, reflL_bit _ _ _ _ ((reflL_steps m).run_sh hR k (by omega)).1 (by omega), reflV_bit R hR a b k (by omega)]
    constructor
    · rintro ((h | ⟨h1, h2⟩) | ⟨h1, h2⟩)
      · exact .inl h
      · exact .inr ⟨h1, by omega⟩
      · exact .inr ⟨by omega, by omega⟩
    · rintro (h | ⟨h1, h2⟩)
      · exact .inl (.inl h)
      · by_cases e : a = k
        · exact .inr ⟨e, by omega⟩
        · exact .inl (.inr ⟨h1, by omega⟩)
theorem reflV_clo {m : Nat} (R : List Nat) (hR : Sh m R) : IsClo m (PRefl m) R (run reflL R m) where
  sh := ((reflL_steps m).run_sh hR m (Nat.le_refl _)).1
  up := ((reflL_steps m).run_sh hR m (Nat.le_refl _)).2
  has := fun w hw => (reflV_bit R hR w w m (Nat.le_refl _)).2 (.inr ⟨rfl, hw⟩)
  least := fun s hs hp hle a b h => ((reflV_bit R hR a b m (Nat.le_refl _)).1 h).elim (hle a b) (fun h2 => by obtain ⟨rfl, h3⟩ := h2; exact hp _ h3)
end Go.Proofs.YtogjbghieoifjaaDoor
