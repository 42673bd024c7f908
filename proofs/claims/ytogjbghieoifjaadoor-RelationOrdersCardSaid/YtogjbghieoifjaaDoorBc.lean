/- Mathematics of relations as lists of words: containment, and closures as the least relation with a property. -/
import Derived.Test.YtogjbghieoifjaaDoorBm
namespace Go.Proofs.Ws
def bit (l : List Nat) (w v : Nat) : Bool := (l.getD w 0).testBit v
/-- every pair of l is one of s -/
def Le (l s : List Nat) : Prop := ∀ w v, bit l w v = true → bit s w v = true
/-- a relation over m points -/
def Sh (m : Nat) (l : List Nat) : Prop := l.length = m ∧ ∀ x ∈ l, x < 2 ^ m
theorem Le.refl (l : List Nat) : Le l l := fun _ _ h => h
theorem Le.trans {a b c : List Nat} (h : Le a b) (k : Le b c) : Le a c := fun w v x => k w v (h w v x)
theorem Le.antisymm {m : Nat} {l s : List Nat} (hl : Sh m l) (hs : Sh m s) (h : Le l s) (k : Le s l) : l = s := by
  apply List.ext_getElem
  · rw [hl.1, hs.1]
  · intro i h1 h2
    apply Nat.eq_of_testBit_eq
    intro v
    have e1 : bit l i v = l[i].testBit v := by unfold bit; rw [List.getD_eq_getElem?_getD, List.getElem?_eq_getElem h1]; rfl
    have e2 : bit s i v = s[i].testBit v := by unfold bit; rw [List.getD_eq_getElem?_getD, List.getElem?_eq_getElem h2]; rfl
    have a := h i v
    have b := k i v
    rw [e1, e2] at a b
    cases hx : l[i].testBit v <;> cases hy : s[i].testBit v <;> simp_all
theorem bit_set (l : List Nat) (w x a b : Nat) (hw : w < l.length) : bit (l.set w x) a b = if a = w then x.testBit b else bit l a b := by
  unfold bit
  rw [List.getD_eq_getElem?_getD, List.getElem?_set]
  by_cases h : w = a
  · subst h
    rw [if_pos rfl, if_pos hw, if_pos rfl]; rfl
  · rw [if_neg h, if_neg (fun e => h e.symm), ← List.getD_eq_getElem?_getD]
theorem bit_in {m : Nat} {l : List Nat} (h : Sh m l) {w v : Nat} (hb : bit l w v = true) : w < m ∧ v < m := by
  unfold bit at hb
  rw [List.getD_eq_getElem?_getD] at hb
  by_cases hw : w < l.length
  · rw [List.getElem?_eq_getElem hw] at hb
    have hx := h.2 _ (List.getElem_mem hw)
    refine ⟨by rw [← h.1]; exact hw, ?_⟩
    apply Classical.byContradiction
    intro hn
    have : l[w] < 2 ^ v := Nat.lt_of_lt_of_le hx (Nat.pow_le_pow_right (by decide) (by omega))
    simp [Nat.testBit_lt_two_pow this] at hb
  · rw [List.getElem?_eq_none (by omega)] at hb
    simp at hb
theorem Sh.set {m : Nat} {l : List Nat} (h : Sh m l) (w x : Nat) (hx : x < 2 ^ m) : Sh m (l.set w x) :=
  ⟨by rw [List.length_set]; exact h.1, fun y hy => by
    rcases List.mem_or_eq_of_mem_set hy with h' | h'
    · exact h.2 y h'
    · subst h'; exact hx⟩
/-- C is the least relation above r that has P -/
structure IsClo (m : Nat) (P : List Nat → Prop) (r C : List Nat) : Prop where
  sh : Sh m C
  up : Le r C
  has : P C
  least : ∀ s, Sh m s → P s → Le r s → Le C s
theorem IsClo.unique {m : Nat} {P : List Nat → Prop} {r C D : List Nat} (h : IsClo m P r C) (k : IsClo m P r D) : C = D :=
  Le.antisymm h.sh k.sh (h.least D k.sh k.has k.up) (k.least C h.sh h.has h.up)
theorem IsClo.fixed {m : Nat} {P : List Nat → Prop} {r C : List Nat} (h : IsClo m P r C) (hr : Sh m r) : C = r ↔ P r :=
  ⟨fun e => e ▸ h.has, fun hp => (Le.antisymm hr h.sh h.up (h.least r hr hp (Le.refl r))).symm⟩
/-- steps that add only pairs that every relation with P has, and that change nothing just where P holds -/
structure Steps (m : Nat) (P : List Nat → Prop) (st : List Nat → Nat → List Nat) : Prop where
  sh : ∀ l w, Sh m l → w < m → Sh m (st l w)
  up : ∀ l w, Sh m l → w < m → Le l (st l w)
  keep : ∀ l w s, Sh m l → w < m → Sh m s → P s → Le l s → Le (st l w) s
  stop : ∀ l, Sh m l → ((∀ w, w < m → st l w = l) ↔ P l)
/-- the steps at the points below k, one after the other -/
def run (st : List Nat → Nat → List Nat) (l : List Nat) (k : Nat) : List Nat := (List.range k).foldl st l
theorem run_succ (st : List Nat → Nat → List Nat) (l : List Nat) (k : Nat) : run st l (k + 1) = st (run st l k) k := by
  unfold run; rw [List.range_succ, List.foldl_append]; rfl
section
variable {m : Nat} {P : List Nat → Prop} {st : List Nat → Nat → List Nat}
theorem Steps.run_sh (h : Steps m P st) {l : List Nat} (hl : Sh m l) : ∀ k, k ≤ m → Sh m (run st l k) ∧ Le l (run st l k)
  | 0, _ => ⟨hl, Le.refl l⟩
  | k + 1, hk => by
    have ih := h.run_sh hl k (by omega)
    rw [run_succ]
    exact ⟨h.sh _ _ ih.1 (by omega), ih.2.trans (h.up _ _ ih.1 (by omega))⟩
theorem Steps.run_keep (h : Steps m P st) {l s : List Nat} (hl : Sh m l) (hs : Sh m s) (hp : P s) (hle : Le l s) : ∀ k, k ≤ m → Le (run st l k) s
  | 0, _ => hle
  | k + 1, hk => by
    rw [run_succ]
    exact h.keep _ _ s (h.run_sh hl k (by omega)).1 (by omega) hs hp (h.run_keep hl hs hp hle k (by omega))
/-- nothing changes in all points exactly if the property holds -/
theorem Steps.run_fixed (h : Steps m P st) {l : List Nat} (hl : Sh m l) : run st l m = l ↔ P l := by
  constructor
  · intro e
    refine (h.stop l hl).1 (fun w hw => ?_)
    have key : ∀ k, k ≤ m → Le (run st l k) (run st l m) := by
      intro k hk
      obtain ⟨d, rfl⟩ : ∃ d, m = k + d := ⟨m - k, by omega⟩
      clear e hw
      have go : ∀ d', d' ≤ d → Le (run st l k) (run st l (k + d')) := by
        intro d'
        induction d' with
        | zero => intro _; exact Le.refl _
        | succ d' ih =>
          intro hd
          rw [show k + (d' + 1) = (k + d') + 1 from rfl, run_succ]
          exact (ih (by omega)).trans (h.up _ _ (h.run_sh hl (k + d') (by omega)).1 (by omega))
      exact go d (Nat.le_refl _)
    have eqk : ∀ k, k ≤ m → run st l k = l := fun k hk =>
      Le.antisymm (h.run_sh hl k hk).1 hl (by have := key k hk; rwa [e] at this) (h.run_sh hl k hk).2
    have := eqk (w + 1) (by omega)
    rwa [run_succ, eqk w (by omega)] at this
  · intro hp
    exact Le.antisymm (h.run_sh hl m (Nat.le_refl _)).1 hl (h.run_keep hl hl hp (Le.refl l) m (Nat.le_refl _)) (h.run_sh hl m (Nat.le_refl _)).2
/-- what lies between r and every closed relation above it, and is closed, is the closure -/
theorem IsClo.of_fixed (h : Steps m P st) {r c : List Nat} (hc : Sh m c) (hup : Le r c) (hleast : ∀ s, Sh m s → P s → Le r s → Le c s) (hf : run st c m = c) : IsClo m P r c :=
  ⟨hc, hup, (h.run_fixed hc).1 hf, hleast⟩
end
/-- a step told by the pairs that it adds -/
theorem Steps.of_bits {m : Nat} {P : List Nat → Prop} {st : List Nat → Nat → List Nat} (D : List Nat → Nat → Nat → Nat → Prop)
    (hsh : ∀ l w, Sh m l → w < m → Sh m (st l w)) (hbit : ∀ l w a b, Sh m l → w < m → (bit (st l w) a b = true ↔ bit l a b = true ∨ D l w a b))
    (hkeep : ∀ l w s a b, Sh m l → w < m → Sh m s → P s → Le l s → D l w a b → bit s a b = true)
    (hstop : ∀ l, Sh m l → (∀ w a b, w < m → D l w a b → bit l a b = true) → P l) : Steps m P st where
  sh := hsh
  up := fun l w hl hw a b h => (hbit l w a b hl hw).2 (.inl h)
  keep := fun l w s hl hw hs hp hle a b h => ((hbit l w a b hl hw).1 h).elim (hle a b) (hkeep l w s a b hl hw hs hp hle)
  stop := fun l hl => by
    constructor
    · intro h
      refine hstop l hl (fun w a b hw hd => ?_)
      have := (hbit l w a b hl hw).2 (.inr hd)
      rwa [h w hw] at this
    · intro hp w hw
      refine Le.antisymm (hsh l w hl hw) hl (fun a b h => ?_) (fun a b h => (hbit l w a b hl hw).2 (.inl h))
      exact ((hbit l w a b hl hw).1 h).elim id (hkeep l w l a b hl hw hl hp (Le.refl l))
/-- the four properties -/
def PRefl (m : Nat) (l : List Nat) : Prop := ∀ w, w < m → bit l w w = true
def PSym (l : List Nat) : Prop := ∀ w v, bit l w v = true → bit l v w = true
def PTrans (l : List Nat) : Prop := ∀ w v u, bit l w v = true → bit l v u = true → bit l w u = true
def PEucl (l : List Nat) : Prop := ∀ w u v, bit l w u = true → bit l w v = true → bit l u v = true
theorem steps_refl {m : Nat} {st : List Nat → Nat → List Nat} (hsh : ∀ l w, Sh m l → w < m → Sh m (st l w))
    (hbit : ∀ l w a b, Sh m l → w < m → (bit (st l w) a b = true ↔ bit l a b = true ∨ (a = w ∧ b = w))) : Steps m (PRefl m) st :=
  Steps.of_bits (fun _ w a b => a = w ∧ b = w) hsh hbit (fun _ _ _ _ _ _ hw _ hp _ hd => by obtain ⟨rfl, rfl⟩ := hd; exact hp _ hw) (fun _ _ h w hw => h w w w hw ⟨rfl, rfl⟩)
theorem steps_sym {m : Nat} {st : List Nat → Nat → List Nat} (hsh : ∀ l w, Sh m l → w < m → Sh m (st l w))
    (hbit : ∀ l w a b, Sh m l → w < m → (bit (st l w) a b = true ↔ bit l a b = true ∨ (b = w ∧ bit l w a = true))) : Steps m PSym st :=
  Steps.of_bits (fun l w a b => b = w ∧ bit l w a = true) hsh hbit (fun l w s a b _ _ _ hp hle hd => by obtain ⟨rfl, h⟩ := hd; exact hp _ _ (hle _ _ h)) (fun l hl h w v hb => h w v w (bit_in hl hb).1 ⟨rfl, hb⟩)
theorem steps_trans {m : Nat} {st : List Nat → Nat → List Nat} (hsh : ∀ l w, Sh m l → w < m → Sh m (st l w))
    (hbit : ∀ l w a b, Sh m l → w < m → (bit (st l w) a b = true ↔ bit l a b = true ∨ (a = w ∧ ∃ u, bit l w u = true ∧ bit l u b = true))) : Steps m PTrans st :=
  Steps.of_bits (fun l w a b => a = w ∧ ∃ u, bit l w u = true ∧ bit l u b = true) hsh hbit
    (fun l w s a b _ _ _ hp hle hd => by obtain ⟨rfl, u, h1, h2⟩ := hd; exact hp _ _ _ (hle _ _ h1) (hle _ _ h2))
    (fun l hl h w v u h1 h2 => h w w u (bit_in hl h1).1 ⟨rfl, v, h1, h2⟩)
theorem steps_eucl {m : Nat} {st : List Nat → Nat → List Nat} (hsh : ∀ l w, Sh m l → w < m → Sh m (st l w))
    (hbit : ∀ l w a b, Sh m l → w < m → (bit (st l w) a b = true ↔ bit l a b = true ∨ (bit l w a = true ∧ bit l w b = true))) : Steps m PEucl st :=
  Steps.of_bits (fun l w a b => bit l w a = true ∧ bit l w b = true) hsh hbit
    (fun _ _ _ _ _ _ _ _ hp hle hd => hp _ _ _ (hle _ _ hd.1) (hle _ _ hd.2))
    (fun _ hl h w u v h1 h2 => h w u v (bit_in hl h1).1 ⟨h1, h2⟩)
end Go.Proofs.Ws
