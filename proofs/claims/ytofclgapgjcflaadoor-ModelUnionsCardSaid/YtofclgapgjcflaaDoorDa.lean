/- Layer 13: models: their check, facts, parts, names, and what is reached from a set. -/
import Derived.Test.YtofclgapgjcflaaDoorBm6
namespace Go.Proofs.Ws
/-- a model -/
structure Mo where
  n : Int
  val : List Nat
  rel : List (List Nat)
  deriving DecidableEq
/-- all sets lie below n -/
def inW (n : Nat) (l : List Nat) : Bool := l.all fun x => decide (x < 2 ^ n)
/-- the error of a model -/
def chkM (m : Mo) : Int :=
  if m.n < 1 ∨ 64 < m.n then 2
  else if 4 < m.rel.length ∨ 8 < m.val.length then 8
  else if m.rel.all (fun r => decide ((r.length : Int) = m.n)) then
    (if inW m.n.toNat m.val && m.rel.all (inW m.n.toNat) then 0 else 2)
  else 3
/-- a valid model -/
structure OkM (n : Nat) (m : Mo) : Prop where
  num : m.n = n
  pos : 1 ≤ n
  le : n ≤ 64
  agents : m.rel.length ≤ 4
  facts : m.val.length ≤ 8
  len : ∀ r ∈ m.rel, r.length = n
  val : ∀ x ∈ m.val, x < 2 ^ n
  rel : ∀ r ∈ m.rel, ∀ x ∈ r, x < 2 ^ n
theorem chkM_ok {m : Mo} (h : chkM m = 0) : OkM m.n.toNat m := by
  unfold chkM at h
  split at h
  · cases h
  · rename_i h1
    split at h
    · cases h
    · rename_i h2
      split at h
      · rename_i h3
        split at h
        · rename_i h4
          rw [Bool.and_eq_true] at h4
          simp only [List.all_eq_true, decide_eq_true_eq] at h3
          unfold inW at h4
          simp only [List.all_eq_true, decide_eq_true_eq] at h4
          exact ⟨by omega, by omega, by omega, by omega, by omega, fun r hr => by have := h3 r hr; omega, h4.1, fun r hr => h4.2 r hr⟩
        · cases h
      · cases h
theorem OkM.chk {n : Nat} {m : Mo} (h : OkM n m) : chkM m = 0 := by
  have e : m.n.toNat = n := by rw [h.num]; rfl
  unfold chkM
  rw [if_neg (by have := h.num; have := h.pos; have := h.le; omega), if_neg (by have := h.agents; have := h.facts; omega)]
  rw [if_pos (by simp only [List.all_eq_true, decide_eq_true_eq]; intro r hr; rw [h.len r hr, h.num])]
  rw [if_pos (by
    rw [e, Bool.and_eq_true]
    unfold inW
    simp only [List.all_eq_true, decide_eq_true_eq]
    exact ⟨h.val, h.rel⟩)]
/-- the number whose bit i is p i, for i < k -/
def bitsN (p : Nat → Bool) : Nat → Nat
  | 0 => 0
  | k + 1 => bitsN p k + if p k then 2 ^ k else 0
theorem bitsN_lt (p : Nat → Bool) : ∀ k, bitsN p k < 2 ^ k
  | 0 => by simp [bitsN]
  | k + 1 => by
    have := bitsN_lt p k
    unfold bitsN
    rw [Nat.pow_succ]
    split <;> omega
theorem bitsN_bit (p : Nat → Bool) : ∀ k i, (bitsN p k).testBit i = (decide (i < k) && p i)
  | 0, i => by simp [bitsN]
  | k + 1, i => by
    have ih := bitsN_bit p k i
    have hl := bitsN_lt p k
    unfold bitsN
    by_cases hp : p k = true
    · rw [if_pos hp, Nat.add_comm]
      rcases Nat.lt_trichotomy i k with h | h | h
      · rw [Nat.testBit_two_pow_add_gt h, ih, decide_eq_true h, decide_eq_true (by omega)]
      · subst h
        rw [Nat.testBit_two_pow_add_eq, ih, hp]
        simp
      · rw [Nat.testBit_lt_two_pow (show 2 ^ k + bitsN p k < 2 ^ i from Nat.lt_of_lt_of_le (show _ < 2 ^ (k + 1) by rw [Nat.pow_succ]; omega) (Nat.pow_le_pow_right (by decide) (by omega)))]
        rw [decide_eq_false (by omega)]; rfl
    · rw [if_neg hp, Nat.add_zero, ih]
      rcases Nat.lt_trichotomy i k with h | h | h
      · rw [decide_eq_true h, decide_eq_true (by omega)]
      · subst h
        have : p i = false := by simpa using hp
        rw [this]; simp
      · rw [decide_eq_false (by omega), decide_eq_false (by omega)]
theorem bitsN_or (p : Nat → Bool) (k : Nat) : bitsN p k ||| (if p k then 2 ^ k else 0) = bitsN p (k + 1) := by
  apply Nat.eq_of_testBit_eq
  intro i
  rw [Nat.testBit_or, bitsN_bit, bitsN_bit]
  by_cases hp : p k = true
  · rw [if_pos hp, Nat.testBit_two_pow]
    by_cases e : k = i
    · subst e; simp [hp]
    · rw [decide_eq_false e, Bool.or_false]
      congr 1
      by_cases h : i < k
      · rw [decide_eq_true h, decide_eq_true (by omega)]
      · rw [decide_eq_false h, decide_eq_false (by omega)]
  · rw [if_neg hp, Nat.zero_testBit, Bool.or_false]
    have hp2 : p k = false := by simpa using hp
    rcases Nat.lt_trichotomy i k with h | h | h
    · rw [decide_eq_true h, decide_eq_true (by omega)]
    · subst h; rw [hp2]; simp
    · rw [decide_eq_false (by omega), decide_eq_false (by omega)]
theorem bitsN_congr {p q : Nat → Bool} {k : Nat} (h : ∀ i, i < k → p i = q i) : bitsN p k = bitsN q k := by
  apply Nat.eq_of_testBit_eq
  intro i
  rw [bitsN_bit, bitsN_bit]
  by_cases hi : i < k
  · rw [h i hi]
  · rw [decide_eq_false hi]; rfl
theorem bitsN_self {s n : Nat} (h : s < 2 ^ n) : bitsN (fun i => s.testBit i) n = s := by
  apply Nat.eq_of_testBit_eq
  intro i
  rw [bitsN_bit]
  by_cases hi : i < n
  · rw [decide_eq_true hi]; rfl
  · rw [decide_eq_false hi, Nat.testBit_lt_two_pow (Nat.lt_of_lt_of_le h (Nat.pow_le_pow_right (by decide) (by omega)))]; rfl
/-- the facts at a world -/
def factN (val : List Nat) (w : Nat) (k : Nat) : Nat := bitsN (fun p => (val.getD p 0).testBit w) k
def factV (m : Mo) (w : Int) : Int := if chkM m = 0 ∧ 0 ≤ w ∧ w < m.n then (factN m.val w.toNat m.val.length : Int) else -1
/-- the indices of those worlds of a list that are in a set -/
def ixN (l : List Nat) (s k : Nat) : Nat := bitsN (fun i => s.testBit (l.getD i 0)) k
def ix (l : List Nat) (s : Nat) : Nat := ixN l s l.length
/-- the model of some worlds -/
def pickM (m : Mo) (l : List Nat) : Mo := ⟨(l.length : Int), m.val.map (ix l), m.rel.map (fun r => l.map (fun w => ix l (r.getD w 0)))⟩
/-- subsets -/
def SubS (a b : Nat) : Prop := ∀ i, a.testBit i = true → b.testBit i = true
theorem SubS.refl (a : Nat) : SubS a a := fun _ h => h
theorem SubS.trans {a b c : Nat} (h : SubS a b) (k : SubS b c) : SubS a c := fun i hi => k i (h i hi)
theorem SubS.antisymm {a b : Nat} (h : SubS a b) (k : SubS b a) : a = b := by
  apply Nat.eq_of_testBit_eq
  intro i
  rw [Bool.eq_iff_iff]
  exact ⟨h i, k i⟩
theorem SubS.or_left (a b : Nat) : SubS a (a ||| b) := fun i h => by rw [Nat.testBit_or, h]; rfl
theorem SubS.or_right (a b : Nat) : SubS b (a ||| b) := fun i h => by rw [Nat.testBit_or, h, Bool.or_true]
theorem SubS.or {a b c : Nat} (h : SubS a c) (k : SubS b c) : SubS (a ||| b) c := fun i hi => by
  rw [Nat.testBit_or, Bool.or_eq_true] at hi
  rcases hi with hi | hi
  · exact h i hi
  · exact k i hi
theorem SubS.zero (a : Nat) : SubS 0 a := fun i h => by rw [Nat.zero_testBit] at h; cases h
theorem lt_of_sub {a n : Nat} (h : ∀ i, a.testBit i = true → i < n) : a < 2 ^ n := by
  apply Nat.lt_pow_two_of_testBit
  intro i hi
  cases e : a.testBit i
  · rfl
  · exact absurd (h i e) (by omega)
theorem bit_lt {a n i : Nat} (h : a < 2 ^ n) (hi : a.testBit i = true) : i < n := by
  rcases Nat.lt_or_ge i n with h' | h'
  · exact h'
  · rw [Nat.testBit_lt_two_pow (Nat.lt_of_lt_of_le h (Nat.pow_le_pow_right (by decide) h'))] at hi
    cases hi
theorem SubS.lt {a b n : Nat} (h : SubS a b) (hb : b < 2 ^ n) : a < 2 ^ n := lt_of_sub fun i hi => bit_lt hb (h i hi)
/-- no successor leads out of a set -/
def ClosedM (rel : List (List Nat)) (s : Nat) : Prop := ∀ r ∈ rel, ∀ w, s.testBit w = true → SubS (r.getD w 0) s
/-- the set that is reached -/
structure GenM (rel : List (List Nat)) (f g : Nat) : Prop where
  sub : SubS f g
  closed : ClosedM rel g
  least : ∀ t, SubS f t → ClosedM rel t → SubS g t
theorem GenM.unique {rel : List (List Nat)} {f g h : Nat} (a : GenM rel f g) (b : GenM rel f h) : g = h :=
  SubS.antisymm (a.least _ b.sub b.closed) (b.least _ a.sub a.closed)
/-- the successors of a world for the first k agents -/
def orW (rel : List (List Nat)) (w : Nat) : Nat → Nat
  | 0 => 0
  | k + 1 => orW rel w k ||| (rel.getD k []).getD w 0
theorem orW_sub {rel : List (List Nat)} {w t : Nat} (h : ∀ r ∈ rel, SubS (r.getD w 0) t) : ∀ k, k ≤ rel.length → SubS (orW rel w k) t
  | 0, _ => SubS.zero _
  | k + 1, hk => (orW_sub h k (by omega)).or (h _ (by rw [List.getD_eq_getElem?_getD, List.getElem?_eq_getElem (by omega)]; exact List.getElem_mem _))
theorem orW_mono {rel : List (List Nat)} {w : Nat} : ∀ {k j : Nat}, j ≤ k → SubS (orW rel w j) (orW rel w k)
  | 0, j, h => by rw [Nat.le_zero.1 h]; exact SubS.refl _
  | k + 1, j, h => by
    by_cases e : j = k + 1
    · rw [e]; exact SubS.refl _
    · exact (orW_mono (k := k) (by omega)).trans (SubS.or_left _ _)
theorem orW_of {rel : List (List Nat)} {w : Nat} {r : List Nat} (hr : r ∈ rel) : SubS (r.getD w 0) (orW rel w rel.length) := by
  obtain ⟨k, hk, rfl⟩ := List.getElem_of_mem hr
  have h1 : SubS (rel[k].getD w 0) (orW rel w (k + 1)) := by
    have e : rel.getD k [] = rel[k] := by simp [hk]
    rw [orW, e]
    exact SubS.or_right _ _
  exact h1.trans (orW_mono (by omega))
theorem orW_lt {rel : List (List Nat)} {w n : Nat} (h : ∀ r ∈ rel, ∀ x ∈ r, x < 2 ^ n) : ∀ k, k ≤ rel.length → orW rel w k < 2 ^ n
  | 0, _ => Nat.two_pow_pos n
  | k + 1, hk => by
    refine Nat.or_lt_two_pow (orW_lt h k (by omega)) ?_
    have e : rel.getD k [] = rel[k] := by simp [show k < rel.length by omega]
    rw [e]
    by_cases hw : w < rel[k].length
    · rw [List.getD_eq_getElem?_getD, List.getElem?_eq_getElem hw]
      exact h _ (List.getElem_mem _) _ (List.getElem_mem hw)
    · rw [List.getD_eq_getElem?_getD, List.getElem?_eq_none (by omega)]
      exact Nat.two_pow_pos n
/-- one look at a world -/
def stepGm (rel : List (List Nat)) (w s : Nat) : Nat := if s.testBit w then s ||| orW rel w rel.length else s
/-- looks at the first k worlds -/
def passG (rel : List (List Nat)) : Nat → Nat → Nat
  | 0, s => s
  | k + 1, s => stepGm rel k (passG rel k s)
/-- rounds -/
def roundG (rel : List (List Nat)) (n : Nat) : Nat → Nat → Nat
  | 0, s => s
  | i + 1, s => passG rel n (roundG rel n i s)
def genF (rel : List (List Nat)) (n s : Nat) : Nat := roundG rel n n s
theorem stepG_up (rel : List (List Nat)) (w s : Nat) : SubS s (stepGm rel w s) := by
  unfold stepGm; split
  · exact SubS.or_left _ _
  · exact SubS.refl _
theorem passG_up (rel : List (List Nat)) : ∀ k s, SubS s (passG rel k s)
  | 0, s => SubS.refl s
  | k + 1, s => (passG_up rel k s).trans (stepG_up rel k _)
theorem stepG_sub {rel : List (List Nat)} {w s t : Nat} (hs : SubS s t) (ht : ClosedM rel t) : SubS (stepGm rel w s) t := by
  unfold stepGm; split
  · rename_i h
    exact hs.or (orW_sub (fun r hr => ht r hr w (hs w h)) _ (Nat.le_refl _))
  · exact hs
theorem passG_sub {rel : List (List Nat)} {s t : Nat} (hs : SubS s t) (ht : ClosedM rel t) : ∀ k, SubS (passG rel k s) t
  | 0 => hs
  | k + 1 => stepG_sub (passG_sub hs ht k) ht
theorem roundG_sub {rel : List (List Nat)} {n s t : Nat} (hs : SubS s t) (ht : ClosedM rel t) : ∀ i, SubS (roundG rel n i s) t
  | 0 => hs
  | i + 1 => passG_sub (roundG_sub hs ht i) ht n
theorem roundG_up (rel : List (List Nat)) (n s : Nat) : ∀ i, SubS s (roundG rel n i s)
  | 0 => SubS.refl s
  | i + 1 => (roundG_up rel n s i).trans (passG_up rel n _)
theorem passG_le {rel : List (List Nat)} {s : Nat} : ∀ {k j : Nat}, j ≤ k → SubS (passG rel j s) (passG rel k s)
  | 0, j, h => by rw [Nat.le_zero.1 h]; exact SubS.refl _
  | k + 1, j, h => by
    by_cases e : j = k + 1
    · rw [e]; exact SubS.refl _
    · exact (passG_le (k := k) (by omega)).trans (stepG_up rel k _)
/-- a round that changes nothing -/
theorem passG_fix {rel : List (List Nat)} {n s : Nat} (hs : s < 2 ^ n) (h : passG rel n s = s) : ClosedM rel s := by
  intro r hr w hw
  have hwn := bit_lt hs hw
  have h1 : SubS (passG rel (w + 1) s) s := by
    have := passG_le (rel := rel) (s := s) (k := n) (j := w + 1) (by omega)
    rwa [h] at this
  have h2 : (passG rel w s).testBit w = true := passG_up rel w s w hw
  have h3 : passG rel (w + 1) s = passG rel w s ||| orW rel w rel.length := by
    show stepGm rel w (passG rel w s) = _
    unfold stepGm; rw [if_pos h2]
  rw [h3] at h1
  exact ((orW_of hr).trans (SubS.or_right _ _)).trans h1
theorem passG_lt {rel : List (List Nat)} {n s : Nat} (hr : ∀ r ∈ rel, ∀ x ∈ r, x < 2 ^ n) (hs : s < 2 ^ n) : ∀ k, passG rel k s < 2 ^ n
  | 0 => hs
  | k + 1 => by
    have ih := passG_lt hr hs k
    show stepGm rel k _ < _
    unfold stepGm
    split
    · exact Nat.or_lt_two_pow ih (orW_lt hr _ (Nat.le_refl _))
    · exact ih
theorem roundG_lt {rel : List (List Nat)} {n s : Nat} (hr : ∀ r ∈ rel, ∀ x ∈ r, x < 2 ^ n) (hs : s < 2 ^ n) : ∀ i, roundG rel n i s < 2 ^ n
  | 0 => hs
  | i + 1 => passG_lt hr (roundG_lt hr hs i) n
/-- how many of the first k worlds are in a set -/
def pc (s : Nat) : Nat → Nat
  | 0 => 0
  | k + 1 => pc s k + if s.testBit k then 1 else 0
theorem pc_le (s : Nat) : ∀ k, pc s k ≤ k
  | 0 => Nat.le_refl _
  | k + 1 => by have := pc_le s k; unfold pc; split <;> omega
theorem pc_mono {s t : Nat} (h : SubS s t) : ∀ k, pc s k ≤ pc t k
  | 0 => Nat.le_refl _
  | k + 1 => by
    have ih := pc_mono h k
    unfold pc
    by_cases e : s.testBit k = true
    · rw [if_pos e, if_pos (h k e)]; omega
    · rw [if_neg e]; split <;> omega
theorem pc_strict {s t : Nat} (h : SubS s t) {i : Nat} (hs : s.testBit i = false) (ht : t.testBit i = true) : ∀ k, i < k → pc s k < pc t k
  | 0, hk => absurd hk (by omega)
  | k + 1, hk => by
    unfold pc
    by_cases e : i = k
    · subst e
      rw [hs, ht]
      have := pc_mono h i
      simp; omega
    · have ih := pc_strict h hs ht k (by omega)
      by_cases e : s.testBit k = true
      · rw [if_pos e, if_pos (h k e)]; omega
      · rw [if_neg e]; split <;> omega
theorem pc_zero : ∀ k, pc 0 k = 0
  | 0 => rfl
  | k + 1 => by unfold pc; rw [pc_zero k, Nat.zero_testBit]; rfl
theorem ex_bit {s t : Nat} (h : SubS s t) (hne : s ≠ t) : ∃ i, s.testBit i = false ∧ t.testBit i = true := by
  apply Classical.byContradiction
  intro hn
  apply hne
  refine SubS.antisymm h (fun i hi => ?_)
  cases e : s.testBit i
  · exact absurd ⟨i, e, hi⟩ hn
  · rfl
theorem pc_grow {s t n : Nat} (h : SubS s t) (hne : s ≠ t) (ht : t < 2 ^ n) : pc s n < pc t n := by
  obtain ⟨i, h1, h2⟩ := ex_bit h hne
  exact pc_strict h h1 h2 n (bit_lt ht h2)
theorem passG_zero (rel : List (List Nat)) : ∀ k, passG rel k 0 = 0
  | 0 => rfl
  | k + 1 => by show stepGm rel k (passG rel k 0) = 0; rw [passG_zero rel k]; unfold stepGm; rw [if_neg (by simp)]
theorem roundG_grow {rel : List (List Nat)} {n s : Nat} (hr : ∀ r ∈ rel, ∀ x ∈ r, x < 2 ^ n) (hs : s < 2 ^ n) : ∀ i, passG rel n (roundG rel n i s) = roundG rel n i s ∨ pc s n + i ≤ pc (roundG rel n i s) n
  | 0 => .inr (Nat.le_refl _)
  | i + 1 => by
    rcases roundG_grow hr hs i with h | h
    · left
      show passG rel n (passG rel n (roundG rel n i s)) = passG rel n (roundG rel n i s)
      rw [h, h]
    · by_cases e : passG rel n (roundG rel n i s) = roundG rel n i s
      · left
        show passG rel n (passG rel n (roundG rel n i s)) = passG rel n (roundG rel n i s)
        rw [e, e]
      · right
        have := pc_grow (passG_up rel n (roundG rel n i s)) (Ne.symm e) (passG_lt hr (roundG_lt hr hs i) n)
        show _ ≤ pc (passG rel n (roundG rel n i s)) n
        omega
theorem genF_gen {rel : List (List Nat)} {n s : Nat} (hr : ∀ r ∈ rel, ∀ x ∈ r, x < 2 ^ n) (hs : s < 2 ^ n) : GenM rel s (genF rel n s) := by
  have hfix : passG rel n (genF rel n s) = genF rel n s := by
    rcases roundG_grow hr hs n with h | h
    · exact h
    · have h2 := pc_le (roundG rel n n s) n
      have h3 : pc s n = 0 := by omega
      have h4 : s = 0 := by
        apply Classical.byContradiction
        intro hne
        have := pc_grow (SubS.zero s) (Ne.symm hne) hs
        omega
      subst h4
      have h5 : ∀ i, roundG rel n i 0 = 0 := fun i => by
        induction i with
        | zero => rfl
        | succ i ih => show passG rel n (roundG rel n i 0) = 0; rw [ih, passG_zero]
      unfold genF
      rw [h5, passG_zero]
  exact ⟨roundG_up rel n s n, passG_fix (roundG_lt hr hs n) hfix, fun t h1 h2 => roundG_sub h1 h2 n⟩
theorem genF_lt {rel : List (List Nat)} {n s : Nat} (hr : ∀ r ∈ rel, ∀ x ∈ r, x < 2 ^ n) (hs : s < 2 ^ n) : genF rel n s < 2 ^ n := roundG_lt hr hs n
/-- the state of the program's walk -/
structure GenS (rel : List (List Nat)) (n f o r : Nat) : Prop where
  sub : SubS f r
  opn : SubS o r
  lt : r < 2 ^ n
  done : ∀ x, r.testBit x = true → o.testBit x = false → ∀ q ∈ rel, SubS (q.getD x 0) r
  least : ∀ t, SubS f t → ClosedM rel t → SubS r t
theorem GenS.start {rel : List (List Nat)} {n f : Nat} (hf : f < 2 ^ n) : GenS rel n f f f :=
  ⟨SubS.refl _, SubS.refl _, hf, fun x h1 h2 => absurd (h1.symm.trans h2) (by decide), fun _ h _ => h⟩
theorem GenS.fin {rel : List (List Nat)} {n f r : Nat} (h : GenS rel n f 0 r) : GenM rel f r :=
  ⟨h.sub, fun q hq x hx => h.done x hx (Nat.zero_testBit x) q hq, h.least⟩
/-- a without b -/
def sdiff (a b : Nat) : Nat := a ^^^ (a &&& b)
theorem sdiff_bit (a b i : Nat) : (sdiff a b).testBit i = (a.testBit i && !b.testBit i) := by
  unfold sdiff
  rw [Nat.testBit_xor, Nat.testBit_and]
  cases a.testBit i <;> cases b.testBit i <;> rfl
theorem sdiff_lt {a b n : Nat} (ha : a < 2 ^ n) : sdiff a b < 2 ^ n := SubS.lt (b := a) (fun i hi => by rw [sdiff_bit, Bool.and_eq_true] at hi; exact hi.1) ha
/-- the sets behind k agents -/
def opnK (rel : List (List Nat)) (w o r : Nat) (k : Nat) : Nat := o ||| sdiff (orW rel w k) r
def rchK (rel : List (List Nat)) (w r : Nat) (k : Nat) : Nat := r ||| orW rel w k
theorem opnK_succ (rel : List (List Nat)) (w o r k : Nat) : opnK rel w o r k ||| sdiff ((rel.getD k []).getD w 0) (rchK rel w r k) = opnK rel w o r (k + 1) := by
  apply Nat.eq_of_testBit_eq
  intro i
  unfold opnK rchK
  rw [show orW rel w (k + 1) = orW rel w k ||| (rel.getD k []).getD w 0 from rfl]
  simp only [Nat.testBit_or, sdiff_bit]
  cases o.testBit i <;> cases r.testBit i <;> cases (orW rel w k).testBit i <;> cases ((rel.getD k []).getD w 0).testBit i <;> rfl
theorem rchK_succ (rel : List (List Nat)) (w r k : Nat) : rchK rel w r k ||| (rel.getD k []).getD w 0 = rchK rel w r (k + 1) := by
  unfold rchK
  rw [Nat.or_assoc]
  rfl
theorem GenS.next {rel : List (List Nat)} {n f o r : Nat} (h : GenS rel n f o r) (hn : n ≤ 64) (ho : o ≠ 0) (hr : ∀ q ∈ rel, ∀ x ∈ q, x < 2 ^ n) :
    GenS rel n f (opnK rel (low o) (o &&& (o - 1)) r rel.length) (rchK rel (low o) r rel.length) := by
  have ho64 : o < 2 ^ 64 := SubS.lt h.opn (Nat.lt_of_lt_of_le h.lt (Nat.pow_le_pow_right (by decide) hn))
  have hb := testBit_low o ho ho64
  have hc := clear_low o ho ho64
  refine ⟨h.sub.trans (SubS.or_left _ _), ?_, Nat.or_lt_two_pow h.lt (orW_lt hr _ (Nat.le_refl _)), ?_, ?_⟩
  · intro i hi
    unfold opnK at hi
    unfold rchK
    rw [Nat.testBit_or, hc, sdiff_bit] at hi
    rw [Nat.testBit_or]
    have := h.opn i
    revert hi this
    cases o.testBit i <;> cases r.testBit i <;> cases (orW rel (low o) rel.length).testBit i <;> simp
  · intro x hx hox q hq
    unfold opnK at hox
    unfold rchK at hx ⊢
    rw [Nat.testBit_or, hc, sdiff_bit] at hox
    rw [Nat.testBit_or] at hx
    by_cases e : x = low o
    · subst e
      exact (orW_of hq).trans (SubS.or_right _ _)
    · rw [decide_eq_false e] at hox
      have hrx : r.testBit x = true := by
        revert hox hx
        cases o.testBit x <;> cases r.testBit x <;> cases (orW rel (low o) rel.length).testBit x <;> simp
      have hxo : o.testBit x = false := by
        revert hox
        cases o.testBit x <;> simp
      exact (h.done x hrx hxo q hq).trans (SubS.or_left _ _)
  · intro t ht hct
    have h1 := h.least t ht hct
    exact h1.or (orW_sub (fun q hq => hct q hq _ (h1 _ (h.opn _ hb))) _ (Nat.le_refl _))
/-- the measure: two for each world that is not reached, one for each that is open -/
def mesG (o r : Nat) : Nat := 2 * (64 - pc r 64) + pc o 64
theorem pc_or_le (a b : Nat) : ∀ k, pc (a ||| b) k ≤ pc a k + pc b k
  | 0 => Nat.le_refl _
  | k + 1 => by
    have ih := pc_or_le a b k
    unfold pc
    rw [Nat.testBit_or]
    cases a.testBit k <;> cases b.testBit k <;> simp <;> omega
theorem pc_split (a r : Nat) : ∀ k, pc (r ||| a) k = pc r k + pc (sdiff a r) k
  | 0 => rfl
  | k + 1 => by
    have ih := pc_split a r k
    unfold pc
    rw [Nat.testBit_or, sdiff_bit, ih]
    cases a.testBit k <;> cases r.testBit k <;> simp <;> omega
theorem mesG_next {rel : List (List Nat)} {o r : Nat} (ho : o ≠ 0) (ho64 : o < 2 ^ 64) :
    mesG (opnK rel (low o) (o &&& (o - 1)) r rel.length) (rchK rel (low o) r rel.length) < mesG o r := by
  unfold mesG opnK rchK
  have h1 := pc_split (orW rel (low o) rel.length) r 64
  have h2 := pc_or_le (o &&& (o - 1)) (sdiff (orW rel (low o) rel.length) r) 64
  have h3 : pc (o &&& (o - 1)) 64 < pc o 64 := by
    have hb := testBit_low o ho ho64
    have hc := clear_low o ho ho64
    refine pc_strict (i := low o) (fun i hi => by rw [hc, Bool.and_eq_true] at hi; exact hi.1) (by rw [hc]; simp) hb 64 (bit_lt ho64 hb)
  have h4 := pc_le (r ||| orW rel (low o) rel.length) 64
  have h5 := pc_le r 64
  omega
end Go.Proofs.Ws
