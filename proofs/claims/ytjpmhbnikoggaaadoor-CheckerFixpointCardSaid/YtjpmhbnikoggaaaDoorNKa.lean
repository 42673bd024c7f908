/- Layer 6: texts joined: Ca Bs Cd Cb. -/
import Derived.Test.YtjpmhbnikoggaaaDoorNIa
import Derived.Test.YtjpmhbnikoggaaaDoorNIb
import Derived.Test.YtjpmhbnikoggaaaDoorNIc
import Derived.Test.YtjpmhbnikoggaaaDoorNJf
import Derived.Test.YtjpmhbnikoggaaaDoorNJi
import Derived.Test.YtjpmhbnikoggaaaDoorNJm
/- Layer 17 as mathematics: the truth of a tree in a model. -/
namespace Go.Proofs.YtjpmhbnikoggaaaDoor
open Go.RowKit Go.Proofs.Ws
set_option maxRecDepth 100000
/-- bit clear -/
def anN (a b : Nat) : Nat := a &&& (18446744073709551615 - b)
/-- whether a node has a meaning in a model, given whether its operands have one -/
def hasN (nr nv : Nat) (n : Nd) (x y : Bool) : Bool :=
  if n.op = 1 ∨ n.op = 2 then true else if n.op = 3 then decide (n.i < (nv : Int)) else if n.op = 4 then x
  else if n.op = 5 ∨ n.op = 6 ∨ n.op = 7 ∨ n.op = 8 then x && y else if n.op = 9 ∨ n.op = 10 then decide (n.i < (nr : Int)) && x
  else if n.op = 11 ∨ n.op = 12 then decide (n.g < 2 ^ nr) && x else if n.op = 13 then decide (n.g < 2 ^ nr) && (x && y) else false
/-- the worlds from which no path through x ends outside y -/
def comV (m : Mo) (g : Int) (x y : Nat) : Nat := anN (allV m.n) (reachV (convV ((groupL m g).map (· &&& x))) (anN (allV m.n) y))
/-- the worlds of a node with a meaning, given those of its operands -/
def setN (m : Mo) (n : Nd) (x y : Nat) : Nat :=
  if n.op = 1 then allV m.n else if n.op = 3 then m.val.getD n.i.toNat 0 else if n.op = 4 then anN (allV m.n) x else if n.op = 5 then x &&& y else if n.op = 6 then x ||| y
  else if n.op = 7 then anN (allV m.n) x ||| y else if n.op = 8 then anN (allV m.n) (x ^^^ y) else if n.op = 9 then whV (pBox x) (m.rel.getD n.i.toNat []) else if n.op = 10 then whV (pDia x) (m.rel.getD n.i.toNat [])
  else if n.op = 11 then whV (pBox x) (groupL m n.g) else if n.op = 12 then whV (pBox x) (meetL m n.g) else if n.op = 13 then comV m n.g x y else 0
def hasT (nr nv : Nat) : Tr → Bool
  | .leaf n => hasN nr nv n false false
  | .un n a => hasN nr nv n (hasT nr nv a) false
  | .bin n a b => hasN nr nv n (hasT nr nv a) (hasT nr nv b)
def setT (m : Mo) : Tr → Nat
  | .leaf n => setN m n 0 0
  | .un n a => setN m n (setT m a) 0
  | .bin n a b => setN m n (setT m a) (setT m b)
/-- what Sets returns for a node -/
def valT (m : Mo) (t : Tr) : Nat := if hasT m.rel.length m.val.length t = true then setT m t else 0
theorem hasN_bare (nr nv : Nat) (n : Nd) (x y : Bool) : hasN nr nv (bare n) x y = hasN nr nv n x y := rfl
theorem setN_bare (m : Mo) (n : Nd) (x y : Nat) : setN m (bare n) x y = setN m n x y := rfl
/-- operands that a node does not use do not matter -/
theorem hasN_leaf {nr nv : Nat} {n : Nd} (h : usesX n.op = false) (x y : Bool) : hasN nr nv n x y = hasN nr nv n false false := by
  unfold usesX at h
  simp only [Bool.and_eq_false_iff, decide_eq_false_iff_not] at h
  unfold hasN
  repeat' (split; · first | rfl | (exfalso; omega))
  rfl
theorem hasN_un {nr nv : Nat} {n : Nd} (h : usesY n.op = false) (x y : Bool) : hasN nr nv n x y = hasN nr nv n x false := by
  unfold usesY at h
  simp only [Bool.or_eq_false_iff, Bool.and_eq_false_iff, decide_eq_false_iff_not] at h
  unfold hasN
  repeat' (split; · first | rfl | (exfalso; omega))
  rfl
theorem setN_leaf {m : Mo} {n : Nd} (h : usesX n.op = false) (x y : Nat) : setN m n x y = setN m n 0 0 := by
  have h1 : n.op < 4 ∨ 21 < n.op := by
    unfold usesX at h
    simp only [Bool.and_eq_false_iff, decide_eq_false_iff_not] at h
    omega
  unfold setN
  simp only [show ¬ n.op = 4 by omega, show ¬ n.op = 5 by omega, show ¬ n.op = 6 by omega, show ¬ n.op = 7 by omega, show ¬ n.op = 8 by omega, show ¬ n.op = 9 by omega, show ¬ n.op = 10 by omega, show ¬ n.op = 11 by omega, show ¬ n.op = 12 by omega, show ¬ n.op = 13 by omega, if_false]
theorem setN_un {m : Mo} {n : Nd} (h : usesY n.op = false) (x y : Nat) : setN m n x y = setN m n x 0 := by
  have h1 : ¬ n.op = 5 ∧ ¬ n.op = 6 ∧ ¬ n.op = 7 ∧ ¬ n.op = 8 ∧ ¬ n.op = 13 := by
    unfold usesY at h
    simp only [Bool.or_eq_false_iff, Bool.and_eq_false_iff, decide_eq_false_iff_not] at h
    omega
  unfold setN
  simp only [h1.1, h1.2.1, h1.2.2.1, h1.2.2.2.1, h1.2.2.2.2, if_false]
/-- a node of a list, from the trees of its operands -/
theorem hasT_at {nr nv : Nat} {f : List Nd} (hf : opsL f) {i : Nat} (hi : i < f.length) :
    hasT nr nv (treeAt f i) = hasN nr nv (f.getD i nd0) (hasT nr nv (treeAt f (f.getD i nd0).x.toNat)) (hasT nr nv (treeAt f (f.getD i nd0).y.toNat)) := by
  rw [treeAt_eq hf hi]
  split
  · rfl
  · rename_i hy
    have hy : usesY (f.getD i nd0).op = false := by simpa using hy
    split
    · show hasN nr nv _ _ false = _
      rw [hasN_bare, ← hasN_un hy]
    · rename_i hx
      have hx : usesX (f.getD i nd0).op = false := by simpa using hx
      show hasN nr nv _ false false = _
      rw [hasN_bare, ← hasN_leaf hx]
theorem setT_at {m : Mo} {f : List Nd} (hf : opsL f) {i : Nat} (hi : i < f.length) :
    setT m (treeAt f i) = setN m (f.getD i nd0) (setT m (treeAt f (f.getD i nd0).x.toNat)) (setT m (treeAt f (f.getD i nd0).y.toNat)) := by
  rw [treeAt_eq hf hi]
  split
  · rfl
  · rename_i hy
    have hy : usesY (f.getD i nd0).op = false := by simpa using hy
    split
    · show setN m _ _ 0 = _
      rw [setN_bare, ← setN_un hy]
    · rename_i hx
      have hx : usesX (f.getD i nd0).op = false := by simpa using hx
      show setN m _ 0 0 = _
      rw [setN_bare, ← setN_leaf hx]
/-- a node with a meaning: its operands have one -/
theorem hasN_x {nr nv : Nat} {n : Nd} {x y : Bool} (h : hasN nr nv n x y = true) (hx : usesX n.op = true) : x = true := by
  unfold usesX at hx
  simp only [Bool.and_eq_true, decide_eq_true_eq] at hx
  unfold hasN at h
  repeat' (split at h)
  all_goals first
    | (exfalso; omega)
    | exact h
    | (simp only [Bool.and_eq_true] at h; first | exact h.1 | exact h.2 | exact h.2.1)
    | cases h
theorem hasN_y {nr nv : Nat} {n : Nd} {x y : Bool} (h : hasN nr nv n x y = true) (hy : usesY n.op = true) : y = true := by
  unfold usesY at hy
  simp only [Bool.or_eq_true, Bool.and_eq_true, decide_eq_true_eq] at hy
  unfold hasN at h
  repeat' (split at h)
  all_goals first
    | (exfalso; omega)
    | (simp only [Bool.and_eq_true] at h; first | exact h.2 | exact h.2.2)
    | cases h
end Go.Proofs.YtjpmhbnikoggaaaDoor
/- Mathematics for the laws of layer 2: a path leads along pairs, and there is one exactly if a point of the second set is reached. -/
namespace Go.Proofs.YtjpmhbnikoggaaaDoor
open Go.RowKit Go.Proofs.Ws
theorem down_ok {R : List Nat} {n s K : Nat} (h0 : relErr n R = 0) (hl : R.length = n) : ∀ c x, OnWay R n s K (c + 1) x →
    (∀ i, i < c + 1 → (down R (lvl R s) (c + 1) x).getD i 0 < n) ∧ (∀ i, i + 1 < c + 1 → bit R ((down R (lvl R s) (c + 1) x).getD i 0) ((down R (lvl R s) (c + 1) x).getD (i + 1) 0) = true) ∧
      x.testBit ((down R (lvl R s) (c + 1) x).getD 0 0) = true ∧ s.testBit ((down R (lvl R s) (c + 1) x).getD c 0) = true
  | 0, x, h => by
    have hp := h.point h0 hl
    rw [down]
    refine ⟨fun i hi => ?_, fun i hi => absurd hi (by omega), hp.2.1, hp.2.2⟩
    obtain rfl : i = 0 := by omega
    exact hp.1
  | c + 1, x, h => by
    have hp := h.point h0 hl
    have ih := down_ok h0 hl c _ (h.next h0 hl)
    rw [down]
    generalize low (x &&& lvl R s (c + 1)) = w at *
    generalize down R (lvl R s) (c + 1) (R.getD w 0) = p at *
    refine ⟨fun i hi => ?_, fun i hi => ?_, hp.2.1, by simpa using ih.2.2.2⟩
    · cases i with
      | zero => exact hp.1
      | succ i => simpa using ih.1 i (by omega)
    · cases i with
      | zero => simpa [bit] using ih.2.2.1
      | succ i => simpa using ih.2.1 i (by omega)
def imgN (R : List Nat) : Nat → Nat → Nat
  | 0, x => x
  | k + 1, x => imgN R k (imgV R x)
section
variable {R : List Nat} {n : Nat} (h0 : relErr n R = 0) (hl : R.length = n)
include h0 hl
theorem img_adj (x y : Nat) : imgV R x &&& y ≠ 0 ↔ x &&& dia R y ≠ 0 := by
  rw [meets_iff, meets_iff]
  have hn : R.length ≤ 64 := by rw [hl]; exact relErr_zero h0
  constructor
  · rintro ⟨v, h1, h2⟩
    obtain ⟨u, h3, h4⟩ := (imgV_bit R x v hn).1 h1
    exact ⟨u, h3, (dia_iff h0 hl y u).2 ⟨v, h4, h2⟩⟩
  · rintro ⟨u, h1, h2⟩
    obtain ⟨v, h3, h4⟩ := (dia_iff h0 hl y u).1 h2
    exact ⟨v, (imgV_bit R x v hn).2 ⟨u, h1, h3⟩, h4⟩
theorem hit_img (s : Nat) : ∀ k x, x &&& lvl R s k ≠ 0 ↔ imgN R k x &&& s ≠ 0
  | 0, _ => Iff.rfl
  | k + 1, x => by
    show x &&& dia R (lvl R s k) ≠ 0 ↔ imgN R k (imgV R x) &&& s ≠ 0
    rw [← img_adj h0 hl, hit_img s k]
theorem img_or (x y : Nat) : imgV R (x ||| y) = imgV R x ||| imgV R y := by
  have hn : R.length ≤ 64 := by rw [hl]; exact relErr_zero h0
  apply Nat.eq_of_testBit_eq
  intro v
  rw [Bool.eq_iff_iff, Nat.testBit_or, Bool.or_eq_true, imgV_bit _ _ _ hn, imgV_bit _ _ _ hn, imgV_bit _ _ _ hn]
  constructor
  · rintro ⟨u, h1, h2⟩
    rw [Nat.testBit_or, Bool.or_eq_true] at h1
    exact h1.elim (fun h => .inl ⟨u, h, h2⟩) (fun h => .inr ⟨u, h, h2⟩)
  · rintro (⟨u, h1, h2⟩ | ⟨u, h1, h2⟩)
    · exact ⟨u, by rw [Nat.testBit_or, h1]; rfl, h2⟩
    · exact ⟨u, by rw [Nat.testBit_or, h1, Bool.or_true], h2⟩
theorem imgN_or : ∀ k x y, imgN R k (x ||| y) = imgN R k x ||| imgN R k y
  | 0, _, _ => rfl
  | k + 1, x, y => by rw [imgN, imgN, imgN, img_or h0 hl, imgN_or k]
theorem itR_bit (v : Nat) : ∀ k x, (itR R k x).testBit v = true ↔ ∃ j, j ≤ k ∧ (imgN R j x).testBit v = true
  | 0, x => by
    constructor
    · intro h; exact ⟨0, Nat.le_refl _, h⟩
    · rintro ⟨j, hj, h⟩
      obtain rfl : j = 0 := by omega
      exact h
  | k + 1, x => by
    rw [itR, itR_bit v k]
    constructor
    · rintro ⟨j, hj, h⟩
      unfold stepR at h
      rw [imgN_or h0 hl, Nat.testBit_or, Bool.or_eq_true] at h
      exact h.elim (fun h => ⟨j, by omega, h⟩) (fun h => ⟨j + 1, by omega, h⟩)
    · rintro ⟨j, hj, h⟩
      by_cases e : j ≤ k
      · exact ⟨j, e, by unfold stepR; rw [imgN_or h0 hl, Nat.testBit_or, h]; rfl⟩
      · obtain rfl : j = k + 1 := by omega
        exact ⟨k, Nat.le_refl _, by unfold stepR; rw [imgN_or h0 hl, Nat.testBit_or, show imgN R k (imgV R x) = imgN R (k + 1) x from rfl, h, Bool.or_true]⟩
theorem imgN_zero : ∀ k, imgN R k 0 = 0
  | 0 => rfl
  | k + 1 => by
    have hn : R.length ≤ 64 := by rw [hl]; exact relErr_zero h0
    have : imgV R 0 = 0 := by
      apply Nat.eq_of_testBit_eq
      intro v
      rw [Bool.eq_iff_iff, imgV_bit _ _ _ hn]
      simp
    rw [imgN, this, imgN_zero k]
theorem reach_iff (frm s : Nat) : reachV R frm &&& s ≠ 0 ↔ ∃ K, K < n ∧ frm &&& lvl R s (K + 1) ≠ 0 := by
  have e : reachV R frm = itR R n (imgV R frm) := by unfold reachV; rw [hl, if_pos h0]
  have hsh := rel_sh h0 hl
  have hx : imgV R frm < 2 ^ n := imgV_in hsh.2 _
  rw [e, meets_iff]
  constructor
  · rintro ⟨v, h1, h2⟩
    by_cases hz : imgV R frm = 0
    · rw [hz] at h1
      obtain ⟨j, _, h⟩ := (itR_bit h0 hl v n 0).1 h1
      rw [imgN_zero h0 hl] at h
      simp at h
    · have hn1 : 1 ≤ n := by
        apply Classical.byContradiction
        intro hn
        obtain rfl : n = 0 := by omega
        omega
      have hlen : 1 ≤ (mem (imgV R frm)).length := by
        rw [mem_step _ hz (pow64 (relErr_zero h0) hx)]; simp
      have hst : itR R n (imgV R frm) = itR R (n - 1) (imgV R frm) := by
        obtain ⟨m, rfl⟩ : ∃ m, n = m + 1 := ⟨n - 1, by omega⟩
        rw [itR_comm, Nat.add_sub_cancel]
        exact itR_stable (relErr_zero h0) hsh.2 m _ hx (by omega)
      rw [hst] at h1
      obtain ⟨j, hj, h⟩ := (itR_bit h0 hl v (n - 1) _).1 h1
      exact ⟨j, by omega, (hit_img h0 hl s (j + 1) frm).2 ((meets_iff _ _).2 ⟨v, h, h2⟩)⟩
  · rintro ⟨K, hK, h⟩
    obtain ⟨v, h1, h2⟩ := (meets_iff _ _).1 ((hit_img h0 hl s (K + 1) frm).1 h)
    exact ⟨v, (itR_bit h0 hl v n _).2 ⟨K, by omega, h1⟩, h2⟩
/-- what a path is good for -/
theorem PathIs.ok {frm s : Nat} {p : List Nat} (hf : frm < 18446744073709551616) (h : PathIs R n frm s p) :
    (p = [] ∧ reachV R frm &&& s = 0) ∨ (reachV R frm &&& s ≠ 0 ∧ 2 ≤ p.length ∧ p.length ≤ n + 1 ∧ (∀ i, i < p.length → p.getD i 0 < n) ∧ (∀ i, i + 1 < p.length → bit R (p.getD i 0) (p.getD (i + 1) 0) = true) ∧
      frm.testBit (p.getD 0 0) = true ∧ s.testBit (p.getD (p.length - 1) 0) = true) := by
  rcases h with ⟨h1, _⟩ | ⟨_, h1, rfl⟩ | ⟨_, K, hK, _, h2, rfl⟩
  · exact absurd h0 h1
  · refine .inl ⟨rfl, Classical.byContradiction fun hn => ?_⟩
    obtain ⟨K, hK, h⟩ := (reach_iff h0 hl frm s).1 hn
    exact h (h1 K hK)
  · have hd := down_ok h0 hl (K + 1) frm (OnWay.start (K := K) hf h2)
    rw [down_len]
    exact .inr ⟨(reach_iff h0 hl frm s).2 ⟨K, hK, h2⟩, by omega, by omega, hd.1, hd.2.1, hd.2.2.1, hd.2.2.2⟩
end
end Go.Proofs.YtjpmhbnikoggaaaDoor
/- Layer 17 as mathematics: common knowledge by paths, and by steps back. -/
namespace Go.Proofs.YtjpmhbnikoggaaaDoor
open Go.RowKit Go.Proofs.Ws
set_option maxRecDepth 100000
/-- a pass of the reference -/
def pthT (T : List Nat) (s : Nat) : Nat → Nat
  | 0 => s
  | k + 1 => if (pthT T s k).testBit k then pthT T s k ||| T.getD k 0 else pthT T s k
def pthN (T : List Nat) (n s : Nat) : Nat → Nat
  | 0 => s
  | i + 1 => pthT T (pthN T n s i) n
def SubB (a b : Nat) : Prop := ∀ v, a.testBit v = true → b.testBit v = true
theorem SubB.refl (a : Nat) : SubB a a := fun _ h => h
theorem SubB.trans {a b c : Nat} (h : SubB a b) (k : SubB b c) : SubB a c := fun v hv => k v (h v hv)
theorem SubB.eq {a b : Nat} (h : SubB a b) (k : SubB b a) : a = b := Nat.eq_of_testBit_eq fun v => by rw [Bool.eq_iff_iff]; exact ⟨h v, k v⟩
theorem SubB.orl (a b : Nat) : SubB a (a ||| b) := fun v hv => by rw [Nat.testBit_or, hv]; rfl
theorem SubB.orr (a b : Nat) : SubB b (a ||| b) := fun v hv => by rw [Nat.testBit_or, hv, Bool.or_true]
theorem SubB.or {a b c : Nat} (h : SubB a c) (k : SubB b c) : SubB (a ||| b) c := fun v hv => by
  rw [Nat.testBit_or, Bool.or_eq_true] at hv
  exact hv.elim (h v) (k v)
theorem pthT_next (T : List Nat) (s k : Nat) : SubB (pthT T s k) (pthT T s (k + 1)) := by
  show SubB _ (if (pthT T s k).testBit k then pthT T s k ||| T.getD k 0 else pthT T s k)
  split
  · exact SubB.orl _ _
  · exact SubB.refl _
theorem pthT_up (T : List Nat) (s : Nat) : ∀ k, SubB s (pthT T s k)
  | 0 => SubB.refl _
  | k + 1 => (pthT_up T s k).trans (pthT_next T s k)
theorem pthT_has (T : List Nat) (s u : Nat) (hu : s.testBit u = true) : ∀ k, u < k → SubB (T.getD u 0) (pthT T s k)
  | 0, h => absurd h (by omega)
  | k + 1, h => by
    by_cases e : u = k
    · subst e
      show SubB _ (if (pthT T s u).testBit u then pthT T s u ||| T.getD u 0 else pthT T s u)
      rw [if_pos (pthT_up T s u u hu)]
      exact SubB.orr _ _
    · exact (pthT_has T s u hu k (by omega)).trans (pthT_next T s k)
theorem pthT_in {T : List Nat} {s L : Nat} (hs : SubB s L) (hc : ∀ u, L.testBit u = true → SubB (T.getD u 0) L) : ∀ k, SubB (pthT T s k) L
  | 0 => hs
  | k + 1 => by
    have ih := pthT_in hs hc k
    show SubB (if (pthT T s k).testBit k then pthT T s k ||| T.getD k 0 else pthT T s k) L
    split
    · rename_i h
      exact ih.or (hc k (ih k h))
    · exact ih
section
variable {T : List Nat} {n : Nat} (h0 : relErr n T = 0) (hl : T.length = n)
include h0 hl
theorem pthT_lt {s : Nat} (hs : s < 2 ^ n) : ∀ k, pthT T s k < 2 ^ n
  | 0 => hs
  | k + 1 => by
    have ih := pthT_lt hs k
    show (if (pthT T s k).testBit k then pthT T s k ||| T.getD k 0 else pthT T s k) < 2 ^ n
    split
    · exact Nat.or_lt_two_pow ih (sh_getD (rel_sh h0 hl) k)
    · exact ih
theorem pthN_lt {s : Nat} (hs : s < 2 ^ n) : ∀ i, pthN T n s i < 2 ^ n
  | 0 => hs
  | i + 1 => pthT_lt h0 hl (pthN_lt hs i) n
theorem stepR_bit (s v : Nat) : (stepR T s).testBit v = true ↔ s.testBit v = true ∨ ∃ u, s.testBit u = true ∧ bit T u v = true := by
  unfold stepR
  rw [Nat.testBit_or, Bool.or_eq_true, imgV_bit _ _ _ (by rw [hl]; exact relErr_zero h0)]
theorem step_pass {s : Nat} (hs : s < 2 ^ n) : SubB (stepR T s) (pthT T s n) := fun v hv => by
  rcases (stepR_bit h0 hl s v).1 hv with h | ⟨u, h1, h2⟩
  · exact pthT_up T s n v h
  · refine pthT_has T s u h1 n ?_ v h2
    apply Classical.byContradiction
    intro hn
    rw [Nat.testBit_lt_two_pow (Nat.lt_of_lt_of_le hs (Nat.pow_le_pow_right (by decide) (by omega)))] at h1
    cases h1
theorem step_mono {s t : Nat} (h : SubB s t) : SubB (stepR T s) (stepR T t) := fun v hv => by
  rw [stepR_bit h0 hl] at hv ⊢
  rcases hv with h1 | ⟨u, h1, h2⟩
  · exact .inl (h v h1)
  · exact .inr ⟨u, h u h1, h2⟩
theorem it_pass {s : Nat} (hs : s < 2 ^ n) : ∀ k, SubB (itR T k s) (pthN T n s k)
  | 0 => SubB.refl _
  | k + 1 => by
    rw [itR_comm]
    exact (step_mono h0 hl (it_pass hs k)).trans (step_pass h0 hl (pthN_lt h0 hl hs k))
theorem pass_it {s : Nat} (hs : s < 2 ^ n) : ∀ k, SubB (pthN T n s k) (itR T n s)
  | 0 => fun v hv => (itR_bit h0 hl v n s).2 ⟨0, by omega, hv⟩
  | k + 1 => by
    have hst := itR_stable (relErr_zero h0) (relErr_rows h0) n s hs (by omega)
    refine pthT_in (pass_it hs k) (fun u hu v hv => ?_) n
    rw [← hst, stepR_bit h0 hl]
    exact .inr ⟨u, hu, hv⟩
theorem passes_eq {s : Nat} (hs : s < 2 ^ n) : pthN T n s n = itR T n s := (pass_it h0 hl hs n).eq (it_pass h0 hl hs n)
theorem img_one (w : Nat) : imgV T (2 ^ w) = T.getD w 0 := by
  apply Nat.eq_of_testBit_eq
  intro v
  rw [Bool.eq_iff_iff, imgV_bit _ _ _ (by rw [hl]; exact relErr_zero h0)]
  constructor
  · rintro ⟨u, h1, h2⟩
    rw [Nat.testBit_two_pow, decide_eq_true_eq] at h1
    subst h1
    exact h2
  · intro h
    exact ⟨w, by rw [Nat.testBit_two_pow]; exact decide_eq_true rfl, h⟩
theorem paths_reach (w : Nat) : pthN T n (T.getD w 0) n = reachV T (2 ^ w) := by
  rw [passes_eq h0 hl (sh_getD (rel_sh h0 hl) w)]
  unfold reachV
  rw [hl, if_pos h0, img_one h0 hl]
omit h0 hl in
theorem lvl_comm (R : List Nat) (x : Nat) : ∀ k, lvl R (dia R x) k = dia R (lvl R x k)
  | 0 => rfl
  | k + 1 => by show dia R (lvl R (dia R x) k) = dia R (dia R (lvl R x k)); rw [lvl_comm R x k]
theorem dia_adj (x s : Nat) : x &&& dia T s ≠ 0 ↔ dia (convV T) x &&& s ≠ 0 := by
  have hc := conv_err h0 hl
  have hcl : (convV T).length = n := by rw [conv_len, hl]
  rw [meets_iff, meets_iff]
  constructor
  · rintro ⟨v, h1, h2⟩
    obtain ⟨u, h3, h4⟩ := (dia_iff h0 hl s v).1 h2
    exact ⟨u, (dia_iff hc hcl x u).2 ⟨v, (conv_bit h0 hl u v).2 h3, h1⟩, h4⟩
  · rintro ⟨u, h1, h2⟩
    obtain ⟨v, h3, h4⟩ := (dia_iff hc hcl x u).1 h1
    exact ⟨v, h4, (dia_iff h0 hl s v).2 ⟨u, (conv_bit h0 hl u v).1 h3, h2⟩⟩
theorem lvl_dual (s : Nat) : ∀ k x, x &&& lvl T s k ≠ 0 ↔ lvl (convV T) x k &&& s ≠ 0
  | 0, _ => Iff.rfl
  | k + 1, x => by
    rw [show lvl T s (k + 1) = dia T (lvl T s k) from rfl, dia_adj h0 hl, lvl_dual s k, lvl_comm]
    exact Iff.rfl
theorem reach_dual (s w : Nat) : (reachV (convV T) s).testBit w = true ↔ reachV T (2 ^ w) &&& s ≠ 0 := by
  have hc := conv_err h0 hl
  have hcl : (convV T).length = n := by rw [conv_len, hl]
  have h1 : (reachV (convV T) s).testBit w = true ↔ reachV (convV T) s &&& 2 ^ w ≠ 0 := by
    rw [meets_iff]
    constructor
    · intro h; exact ⟨w, h, by rw [Nat.testBit_two_pow]; exact decide_eq_true rfl⟩
    · rintro ⟨v, h, h2⟩
      rw [Nat.testBit_two_pow, decide_eq_true_eq] at h2
      subst h2
      exact h
  rw [h1, reach_iff hc hcl, reach_iff h0 hl]
  constructor
  · rintro ⟨K, hK, h⟩
    exact ⟨K, hK, by rw [lvl_dual h0 hl, Nat.and_comm]; exact h⟩
  · rintro ⟨K, hK, h⟩
    exact ⟨K, hK, by rw [Nat.and_comm, ← lvl_dual h0 hl]; exact h⟩
theorem reach_lt (s : Nat) : reachV T s < 2 ^ n := by
  unfold reachV
  rw [hl, if_pos h0]
  have h1 : imgV T s < 2 ^ n := imgV_in (relErr_rows h0) s
  rw [← passes_eq h0 hl h1]
  exact pthN_lt h0 hl h1 n
omit h0 hl in
theorem anN_bit (a b v : Nat) (ha : a < 18446744073709551616) (hb : b < 18446744073709551616) : (anN a b).testBit v = true ↔ a.testBit v = true ∧ b.testBit v = false := by
  unfold anN
  rw [Nat.testBit_and, not_bit b v hb]
  simp only [Bool.and_eq_true, decide_eq_true_eq, Bool.not_eq_true']
  constructor
  · rintro ⟨h1, _, h2⟩; exact ⟨h1, h2⟩
  · rintro ⟨h1, h2⟩
    refine ⟨h1, ?_, h2⟩
    apply Classical.byContradiction
    intro hn
    rw [Nat.testBit_lt_two_pow (Nat.lt_of_lt_of_le ha (show 2 ^ 64 ≤ 2 ^ v from Nat.pow_le_pow_right (by decide) (by omega)))] at h1
    cases h1
/-- steps back say the same as paths -/
theorem com_bits (y : Nat) (_hy : y < 18446744073709551616) : anN (allV n) (reachV (convV T) (anN (allV n) y)) = whU (pBox y) ((List.range n).map (fun w => pthN T n (T.getD w 0) n)) n := by
  have hn : n ≤ 64 := relErr_zero h0
  have hall : allV n < 18446744073709551616 := allV_lt _
  have hc := conv_err h0 hl
  have hcl : (convV T).length = n := by rw [conv_len, hl]
  have hr : reachV (convV T) (anN (allV n) y) < 18446744073709551616 := pow64 hn (reach_lt hc hcl _)
  apply Nat.eq_of_testBit_eq
  intro w
  rw [Bool.eq_iff_iff, anN_bit _ _ _ hall hr, whU_bit, allV_bit n w hn, decide_eq_true_eq]
  refine and_congr_right (fun hw => ?_)
  rw [List.getD_eq_getElem?_getD, List.getElem?_map, List.getElem?_range hw]
  show _ ↔ pBox y (pthN T n (T.getD w 0) n) = true
  rw [paths_reach h0 hl]
  unfold pBox
  rw [decide_eq_true_eq, ← Bool.not_eq_true, reach_dual h0 hl, Classical.not_not]
  rw [show anN (allV n) y = allV n &&& (18446744073709551615 - y) from rfl, ← Nat.and_assoc, and_allV hn (reach_lt h0 hl _)]
end
end Go.Proofs.YtjpmhbnikoggaaaDoor
/- Layer 17 as mathematics: a formula has a meaning in a model exactly if it is static and fits it. -/
namespace Go.Proofs.YtjpmhbnikoggaaaDoor
open Go.RowKit Go.Proofs.Ws
set_option maxRecDepth 100000
def okC (nr nv : Nat) (n : Nd) : Prop := hasN nr nv n true true = true
theorem hasN_parts {nr nv : Nat} {n : Nd} {x y : Bool} : hasN nr nv n x y = true ↔ okC nr nv n ∧ (usesX n.op = true → x = true) ∧ (usesY n.op = true → y = true) := by
  constructor
  · intro h
    refine ⟨?_, hasN_x h, hasN_y h⟩
    unfold okC
    have hx := fun k => hasN_x h k
    have hy := fun k => hasN_y h k
    unfold hasN at h ⊢
    repeat' (split at h)
    all_goals simp_all
  · rintro ⟨h, hx, hy⟩
    by_cases h1 : usesX n.op = true
    · obtain rfl := hx h1
      by_cases h2 : usesY n.op = true
      · obtain rfl := hy h2
        exact h
      · rw [hasN_un (by simpa using h2)]
        unfold okC at h
        rwa [hasN_un (by simpa using h2)] at h
    · rw [hasN_leaf (by simpa using h1)]
      unfold okC at h
      rwa [hasN_leaf (by simpa using h1)] at h
theorem hasT_all {nr nv : Nat} : ∀ {t : Tr}, trOk t → (hasT nr nv t = true ↔ trAll (okC nr nv) t)
  | .leaf n, h => by
    show hasN nr nv n false false = true ↔ okC nr nv n
    rw [hasN_parts]
    exact ⟨fun k => k.1, fun k => ⟨k, fun e => absurd (h.1.symm.trans e) (by decide), fun e => absurd (h.2.1.symm.trans e) (by decide)⟩⟩
  | .un n a, h => by
    show hasN nr nv n (hasT nr nv a) false = true ↔ okC nr nv n ∧ trAll (okC nr nv) a
    rw [hasN_parts, ← hasT_all h.2.2.2]
    exact ⟨fun k => ⟨k.1, k.2.1 h.1⟩, fun k => ⟨k.1, fun _ => k.2, fun e => by rw [h.2.1] at e; cases e⟩⟩
  | .bin n a b, h => by
    show hasN nr nv n (hasT nr nv a) (hasT nr nv b) = true ↔ okC nr nv n ∧ trAll (okC nr nv) a ∧ trAll (okC nr nv) b
    rw [hasN_parts, ← hasT_all h.2.2.2.1, ← hasT_all h.2.2.2.2]
    exact ⟨fun k => ⟨k.1, k.2.1 h.1, k.2.2 h.2.1⟩, fun k => ⟨k.1, fun _ => k.2.1, fun _ => k.2.2⟩⟩
theorem trAll_can {P : Nd → Prop} {t : Tr} (h : trOk t) (hP : ∀ n, P (bare n) ↔ P n) : trAll P t ↔ ∀ n ∈ canT t, P n := by
  constructor
  · intro k n hn
    exact (hP n).1 (finT_all t h k (fun m hm => absurd hm (by simp)) n hn)
  · intro k
    have h1 := treeAt_all (P := P) (canT_ops h) (fun n hn => (hP n).2 (k n hn)) _ ((canT t).length - 1) (Nat.lt_succ_self _) (by have := List.length_pos_iff.2 (canT_ne t); omega)
    rwa [canT_tree h] at h1
theorem hasT_can {nr nv : Nat} {t : Tr} (h : trOk t) : hasT nr nv t = true ↔ ∀ n ∈ canT t, okC nr nv n := by
  rw [hasT_all h, trAll_can h (fun n => by unfold okC; rw [hasN_bare])]
/-- the node's own conditions -/
theorem okC_iff {nr nv : Nat} {n : Nd} (h : fldOk n) : okC nr nv n ↔ fragD n &&& 496 = 0 ∧ agentD n < 2 ^ nr ∧ factD n < 2 ^ nv := by
  obtain ⟨hk, ⟨hi, he, hg⟩, hr⟩ := h
  have p1 : 0 < 2 ^ nr := Nat.two_pow_pos nr
  have p2 : 0 < 2 ^ nv := Nat.two_pow_pos nv
  unfold known at hk
  simp only [Bool.and_eq_true, decide_eq_true_eq] at hk
  unfold rangeOk at hr
  simp only [Bool.and_eq_true, Bool.or_eq_true, decide_eq_true_eq, beq_iff_eq] at hr
  obtain ⟨⟨r1, r2⟩, r3⟩ := hr
  have hops : n.op = 1 ∨ n.op = 2 ∨ n.op = 3 ∨ n.op = 4 ∨ n.op = 5 ∨ n.op = 6 ∨ n.op = 7 ∨ n.op = 8 ∨ n.op = 9 ∨ n.op = 10 ∨ n.op = 11 ∨ n.op = 12 ∨ n.op = 13 ∨ n.op = 14 ∨ n.op = 15 ∨ n.op = 16 ∨ n.op = 17 ∨ n.op = 18 ∨ n.op = 19 ∨ n.op = 20 ∨ n.op = 21 := by omega
  have pw : ∀ (k e : Nat), (2 ^ k < 2 ^ e ↔ k < e) := fun k e => Nat.pow_lt_pow_iff_right (by decide)
  have pg : ∀ g : Int, 0 ≤ g → (g < 2 ^ nr ↔ g.toNat < 2 ^ nr) := fun g h0 => by
    have e1 : ((2 ^ nr : Nat) : Int) = (2 : Int) ^ nr := by simp
    rw [← e1]
    omega
  unfold okC hasN fragD fragN agentD factD
  rcases hops with e | e | e | e | e | e | e | e | e | e | e | e | e | e | e | e | e | e | e | e | e <;> rw [e] at hi he hg r1 r2 r3 ⊢ <;>
    simp [hasAgent, hasGroup, shN, shE, shG] at hi he hg r1 r2 r3 ⊢ <;> (try simp only [pw]) <;> (try omega) <;> (rw [pg _ (by omega)]; exact ⟨fun k => ⟨k, p2⟩, fun k => k.1⟩)
end Go.Proofs.YtjpmhbnikoggaaaDoor
