/- Layer 6: texts joined: Ya Yb Yc. -/
import Derived.Test.YtfbgabcdeecpoaaDoorNMb
import Derived.Test.YtfbgabcdeecpoaaDoorNMd
import Derived.Test.YtfbgabcdeecpoaaDoorNMe
import Derived.BigQuiet
import Derived.Laws.StructEq
/- Layer 24: priors: their check, weights, posteriors, what is told, rounds. -/
namespace Go.Proofs.YtfbgabcdeecpoaaDoor
open Go.RowKit Go.Proofs.Ws
structure Pri where
  wt : List Int
  cells : List (List Int)
  deriving DecidableEq
def badW (l : List Int) : Bool := l.any (fun x => decide (x < 1 ∨ 1000 < x))
def badC (n : Nat) (ls : List (List Int)) : Bool := ls.any (fun c => decide (c.length ≠ n ∨ partErr c ≠ 0))
/-- the error of a prior -/
def chkP (p : Pri) : Int :=
  if p.wt.length < 1 ∨ 64 < p.wt.length then 2 else if 4 < p.cells.length then 8 else if badW p.wt = true then 2 else if badC p.wt.length p.cells = true then 3 else 0
/-- a valid prior -/
structure OkP (p : Pri) : Prop where
  pos : 1 ≤ p.wt.length
  le : p.wt.length ≤ 64
  ag : p.cells.length ≤ 4
  w : ∀ x ∈ p.wt, 1 ≤ x ∧ x ≤ 1000
  c : ∀ c ∈ p.cells, Can p.wt.length c
theorem chkP_ok {p : Pri} (h : chkP p = 0) : OkP p := by
  unfold chkP at h
  split at h
  · cases h
  · rename_i h1
    split at h
    · cases h
    · rename_i h2
      split at h
      · cases h
      · rename_i h3
        split at h
        · cases h
        · rename_i h4
          refine ⟨by omega, by omega, by omega, fun x hx => ?_, fun c hc => ?_⟩
          · apply Classical.byContradiction
            intro hn
            exact h3 (List.any_eq_true.2 ⟨x, hx, decide_eq_true (by omega)⟩)
          · apply Classical.byContradiction
            intro hn
            refine h4 (List.any_eq_true.2 ⟨c, hc, decide_eq_true ?_⟩)
            apply Classical.byContradiction
            intro h5
            refine hn ⟨?_, ?_⟩
            · exact Classical.byContradiction fun h6 => h5 (.inl h6)
            · exact Classical.byContradiction fun h6 => h5 (.inr h6)
theorem OkP.chk {p : Pri} (h : OkP p) : chkP p = 0 := by
  unfold chkP
  rw [if_neg (by have := h.pos; have := h.le; omega), if_neg (by have := h.ag; omega), if_neg, if_neg]
  · intro h2
    obtain ⟨c, hc, h3⟩ := List.any_eq_true.1 h2
    have h4 := of_decide_eq_true h3
    have := h.c c hc
    rcases h4 with h4 | h4
    · exact h4 this.len
    · exact h4 this.ok
  · intro h2
    obtain ⟨x, hx, h3⟩ := List.any_eq_true.1 h2
    have h4 := of_decide_eq_true h3
    have := h.w x hx
    omega
theorem getD_memP {α : Type} {l : List α} {j : Nat} {d : α} (h : j < l.length) : l.getD j d ∈ l := by
  rw [List.getD_eq_getElem?_getD, List.getElem?_eq_getElem h]; exact List.getElem_mem h
theorem OkP.can {p : Pri} (h : OkP p) {a : Nat} (ha : a < p.cells.length) : Can p.wt.length (p.cells.getD a []) := h.c _ (getD_memP ha)
/-- the error of a prior with an event -/
def evE (p : Pri) (s : Nat) : Int := if chkP p = 0 then (if s < 2 ^ p.wt.length then 0 else 2) else chkP p
theorem evE_ok {p : Pri} {s : Nat} (h : evE p s = 0) : OkP p ∧ s < 2 ^ p.wt.length := by
  unfold evE at h
  split at h
  · rename_i h1
    split at h
    · rename_i h2
      exact ⟨chkP_ok h1, h2⟩
    · cases h
  · rename_i h1
    exact absurd h h1
/-- sums -/
def sumN (f : Nat → Nat) : Nat → Nat
  | 0 => 0
  | k + 1 => sumN f k + f k
theorem sumN_congr {f g : Nat → Nat} : ∀ {k : Nat}, (∀ i, i < k → f i = g i) → sumN f k = sumN g k
  | 0, _ => rfl
  | k + 1, h => by unfold sumN; rw [sumN_congr (fun i hi => h i (by omega)), h k (by omega)]
theorem sumN_zero {f : Nat → Nat} : ∀ {k : Nat}, (∀ i, i < k → f i = 0) → sumN f k = 0
  | 0, _ => rfl
  | k + 1, h => by unfold sumN; rw [sumN_zero (fun i hi => h i (by omega)), h k (by omega)]
theorem sumN_add (f g : Nat → Nat) : ∀ k, sumN (fun i => f i + g i) k = sumN f k + sumN g k
  | 0 => rfl
  | k + 1 => by unfold sumN; rw [sumN_add f g k]; omega
theorem sumN_mul (f : Nat → Nat) (c : Nat) : ∀ k, sumN (fun i => f i * c) k = sumN f k * c
  | 0 => by simp [sumN]
  | k + 1 => by unfold sumN; rw [sumN_mul f c k, Nat.add_mul]
theorem sumN_one (x r : Nat) : ∀ k, r < k → sumN (fun i => if r = i then x else 0) k = x
  | 0, h => absurd h (by omega)
  | k + 1, h => by
    unfold sumN
    by_cases e : r = k
    · subst e
      rw [sumN_zero (fun i hi => if_neg (by omega)), if_pos rfl, Nat.zero_add]
    · rw [sumN_one x r k (by omega), if_neg e, Nat.add_zero]
/-- sums may be taken by groups -/
theorem sumN_group (f c : Nat → Nat) (n : Nat) : ∀ k, (∀ i, i < k → c i < n) → sumN (fun r => sumN (fun i => if c i = r then f i else 0) k) n = sumN f k
  | 0, _ => sumN_zero (fun _ _ => rfl)
  | k + 1, h => by
    have e : sumN (fun r => sumN (fun i => if c i = r then f i else 0) (k + 1)) n = sumN (fun r => sumN (fun i => if c i = r then f i else 0) k + (if c k = r then f k else 0)) n := rfl
    rw [e, sumN_add, sumN_group f c n k (fun i hi => h i (by omega)), sumN_one (f k) (c k) n (h k (by omega))]
    rfl
theorem sumN_le {f : Nat → Nat} {b : Nat} : ∀ {k : Nat}, (∀ i, i < k → f i ≤ b) → sumN f k ≤ b * k
  | 0, _ => by simp [sumN]
  | k + 1, h => by
    have h1 := sumN_le (f := f) (b := b) (k := k) (fun i hi => h i (by omega))
    have h2 := h k (by omega)
    unfold sumN
    rw [Nat.mul_succ]; omega
theorem sumN_mono {f g : Nat → Nat} : ∀ {k : Nat}, (∀ i, i < k → f i ≤ g i) → sumN f k ≤ sumN g k
  | 0, _ => Nat.le_refl _
  | k + 1, h => by
    have h1 := sumN_mono (f := f) (g := g) (k := k) (fun i hi => h i (by omega))
    have h2 := h k (by omega)
    unfold sumN; omega
theorem sumN_pos {f : Nat → Nat} : ∀ {k i : Nat}, i < k → 0 < f i → 0 < sumN f k
  | 0, _, h, _ => absurd h (by omega)
  | k + 1, i, h, hf => by
    unfold sumN
    by_cases e : i = k
    · subst e; omega
    · have := sumN_pos (f := f) (k := k) (i := i) (by omega) hf
      omega
/-- the weight of an event -/
def wAt (wt : List Int) (s i : Nat) : Nat := if s.testBit i = true then (wt.getD i 0).toNat else 0
def wsum (wt : List Int) (s k : Nat) : Nat := sumN (wAt wt s) k
def wOf (wt : List Int) (s : Nat) : Nat := wsum wt s wt.length
theorem wsum_le {p : Pri} (h : OkP p) (s : Nat) {k : Nat} (hk : k ≤ p.wt.length) : wsum p.wt s k ≤ 1000 * k := by
  refine sumN_le fun i hi => ?_
  unfold wAt
  split
  · have := h.w _ (getD_memP (l := p.wt) (j := i) (d := 0) (by omega))
    omega
  · omega
theorem wOf_le {p : Pri} (h : OkP p) (s : Nat) : wOf p.wt s ≤ 64000 := by
  have := wsum_le h s (Nat.le_refl _)
  have := h.le
  unfold wOf; omega
theorem wOf_pos {p : Pri} (h : OkP p) {s i : Nat} (hi : i < p.wt.length) (hb : s.testBit i = true) : 0 < wOf p.wt s := by
  refine sumN_pos hi ?_
  unfold wAt
  rw [if_pos hb]
  have := h.w _ (getD_memP (l := p.wt) (j := i) (d := 0) hi)
  omega
/-- the members' weights -/
def lsum (wt : List Int) : List Nat → Nat
  | [] => 0
  | x :: l => (wt.getD x 0).toNat + lsum wt l
theorem lsum_append (wt : List Int) : ∀ a b : List Nat, lsum wt (a ++ b) = lsum wt a + lsum wt b
  | [], b => by simp [lsum]
  | x :: a, b => by rw [List.cons_append, lsum, lsum, lsum_append wt a b]; omega
theorem lsum_filter (wt : List Int) (s : Nat) : ∀ k, lsum wt ((List.range k).filter (fun w => s.testBit w)) = wsum wt s k
  | 0 => rfl
  | k + 1 => by
    rw [List.range_succ, List.filter_append, lsum_append, lsum_filter wt s k]
    show _ = wsum wt s k + wAt wt s k
    congr 1
    unfold wAt
    by_cases h : s.testBit k = true
    · rw [if_pos h, List.filter_cons_of_pos (by simpa using h)]; simp [lsum]
    · rw [if_neg h, List.filter_cons_of_neg (by simpa using h)]; rfl
theorem wsum_more (wt : List Int) {s n : Nat} (h : s < 2 ^ n) : ∀ d, wsum wt s (n + d) = wsum wt s n
  | 0 => rfl
  | d + 1 => by
    have e : wsum wt s (n + (d + 1)) = wsum wt s (n + d) + wAt wt s (n + d) := rfl
    rw [e, wsum_more wt h d]
    unfold wAt
    rw [if_neg]
    · rfl
    · rw [Nat.testBit_lt_two_pow (Nat.lt_of_lt_of_le h (Nat.pow_le_pow_right (by decide) (by omega)))]; simp
theorem lsum_mem {wt : List Int} {s : Nat} (hl : wt.length ≤ 64) (h : s < 2 ^ wt.length) : lsum wt (mem s) = wOf wt s := by
  unfold mem wOf
  rw [lsum_filter, ← wsum_more wt h (64 - wt.length), show wt.length + (64 - wt.length) = 64 by omega]
theorem lsum_le (wt : List Int) (hw : ∀ x ∈ wt, x ≤ 1000) : ∀ l : List Nat, lsum wt l ≤ 1000 * l.length
  | [] => Nat.le_refl _
  | x :: l => by
    have h1 := lsum_le wt hw l
    rw [lsum, List.length_cons]
    have h2 : (wt.getD x 0).toNat ≤ 1000 := by
      by_cases hx : x < wt.length
      · have := hw _ (getD_memP (l := wt) (j := x) (d := 0) hx)
        omega
      · rw [List.getD_eq_getElem?_getD, List.getElem?_eq_none (by omega)]; decide
    omega
/-- a fraction in lowest terms -/
def redN (a b : Nat) : Nat × Nat := (a / Nat.gcd a b, b / Nat.gcd a b)
/-- the posterior of an event for an agent at a world -/
def postN (p : Pri) (a w s : Nat) : Nat × Nat := redN (wOf p.wt (blkV (p.cells.getD a []) (w : Int) &&& s)) (wOf p.wt (blkV (p.cells.getD a []) (w : Int)))
def postL (p : Pri) (a s : Nat) : List (Nat × Nat) := (List.range p.wt.length).map (fun w => postN p a w s)
theorem postL_len (p : Pri) (a s : Nat) : (postL p a s).length = p.wt.length := by simp [postL]
theorem postL_at (p : Pri) (a s : Nat) {w : Nat} (h : w < p.wt.length) : (postL p a s).getD w (0, 0) = postN p a w s := by
  unfold postL
  rw [List.getD_eq_getElem?_getD, List.getElem?_map, List.getElem?_range h]
  rfl
/-- the place of the first fraction that equals each -/
def ixF (l : List (Nat × Nat)) (x : Nat × Nat) : Nat := l.findIdx (fun y => decide (y = x))
def keysF (l : List (Nat × Nat)) : List Int := l.map (fun x => (ixF l x : Int))
theorem keysF_len (l : List (Nat × Nat)) : (keysF l).length = l.length := by simp [keysF]
theorem keysF_at {l : List (Nat × Nat)} {i : Nat} (h : i < l.length) : (keysF l).getD i 0 = (ixF l (l.getD i (0, 0)) : Int) := by
  unfold keysF
  rw [List.getD_eq_getElem?_getD, List.getElem?_map, List.getElem?_eq_getElem h, List.getD_eq_getElem?_getD, List.getElem?_eq_getElem h]
  rfl
theorem ixF_at {l : List (Nat × Nat)} {x : Nat × Nat} (h : x ∈ l) : ixF l x < l.length ∧ l.getD (ixF l x) (0, 0) = x := by
  have h1 : ixF l x < l.length := List.findIdx_lt_length_of_exists ⟨x, h, by simp⟩
  refine ⟨h1, ?_⟩
  have h2 := List.findIdx_getElem (xs := l) (p := fun y => decide (y = x)) (w := h1)
  rw [List.getD_eq_getElem?_getD, List.getElem?_eq_getElem h1]
  exact of_decide_eq_true h2
theorem ixF_below {l : List (Nat × Nat)} {x : Nat × Nat} {j : Nat} (h : j < ixF l x) : l.getD j (0, 0) ≠ x := by
  have h1 := List.not_of_lt_findIdx (p := fun y => decide (y = x)) (xs := l) h
  have hj : j < l.length := Nat.lt_of_lt_of_le h List.findIdx_le_length
  rw [List.getD_eq_getElem?_getD, List.getElem?_eq_getElem hj]
  intro e
  rw [Option.getD_some] at e
  simp [e] at h1
theorem ixF_eq {l : List (Nat × Nat)} {x : Nat × Nat} {k : Nat} (hk : k < l.length) (h1 : l.getD k (0, 0) = x) (h2 : ∀ j, j < k → l.getD j (0, 0) ≠ x) : ixF l x = k := by
  have hm : x ∈ l := by rw [← h1]; exact getD_memP hk
  have h3 := ixF_at hm
  rcases Nat.lt_trichotomy (ixF l x) k with h | h | h
  · exact absurd h3.2 (h2 _ h)
  · exact h
  · exact absurd h1 (ixF_below h)
theorem keysF_same {l : List (Nat × Nat)} {i j : Nat} (hi : i < l.length) (hj : j < l.length) : (keysF l).getD i 0 = (keysF l).getD j 0 ↔ l.getD i (0, 0) = l.getD j (0, 0) := by
  rw [keysF_at hi, keysF_at hj]
  constructor
  · intro h
    have h1 := ixF_at (getD_memP (l := l) (d := (0, 0)) hi)
    have h2 := ixF_at (getD_memP (l := l) (d := (0, 0)) hj)
    rw [← h1.2, ← h2.2]
    rw [show ixF l (l.getD i (0, 0)) = ixF l (l.getD j (0, 0)) by omega]
  · intro h; rw [h]
theorem keysF_wf {l : List (Nat × Nat)} (h : l.length ≤ 64) : WFs (keysF l) := fun i => by
  by_cases hi : i < l.length
  · rw [keysF_at hi]
    have h1 := (ixF_at (getD_memP (l := l) (d := (0, 0)) hi)).1
    generalize ixF l (l.getD i (0, 0)) = z at *
    simp [Lit.wf]
    have q1 : IntKind.i64.min = -9223372036854775808 := rfl
    have q2 : IntKind.i64.max = 9223372036854775807 := rfl
    omega
  · rw [List.getD_eq_getElem?_getD, List.getElem?_eq_none (by rw [keysF_len]; omega)]
    decide
/-- the cells of an agent, divided by lists of keys -/
def divC (c : List Int) (ks : List (List Int)) : List Int := ks.foldl canonL c
def divP (p : Pri) (ks : List (List Int)) : Pri := ⟨p.wt, p.cells.map (fun c => divC c ks)⟩
def tellK (p : Pri) (a s : Nat) : List Int := keysF (postL p a s)
def tellsL (p : Pri) (s : Nat) : List (List Int) := (List.range p.cells.length).map (fun a => tellK p a s)
def rndP (p : Pri) (s : Nat) : Pri := divP p (tellsL p s)
theorem divC_can {n : Nat} (hn : n ≤ 64) : ∀ (ks : List (List Int)) {c : List Int}, Can n c → Can n (divC c ks)
  | [], _, h => h
  | k :: ks, c, h => by
    show Can n (divC (canonL c k) ks)
    exact divC_can hn ks (canon_can h.len hn)
theorem OkP.div {p : Pri} (h : OkP p) (ks : List (List Int)) : OkP (divP p ks) := by
  refine ⟨h.pos, h.le, ?_, h.w, fun c hc => ?_⟩
  · show (p.cells.map _).length ≤ 4
    rw [List.length_map]; exact h.ag
  · obtain ⟨d, hd, rfl⟩ := List.mem_map.1 hc
    exact divC_can h.le ks (h.c d hd)
end Go.Proofs.YtfbgabcdeecpoaaDoor
/- Layer 24: priors in memory; their check on both sides. -/
namespace Go.Proofs.YtfbgabcdeecpoaaDoor
open Go.RowKit Go.Proofs.Ws
set_option maxRecDepth 100000
/-- a slice of lists of ints -/
structure ZsR (W : World) (B : Nat) (A : Option Addr) (n : Nat) (ls : List (List Int)) : Prop where
  len : ls.length = n
  ex : ∃ vs, Reads W B 1 A n vs ∧ ∀ j, j < n → ∃ Aj cj, vs[j]? = some (.slice Aj (ls.getD j []).length cj) ∧ Reads W B 1 Aj (ls.getD j []).length (ints (ls.getD j [])) ∧ (ls.getD j []).length ≤ maxLen
theorem ZsR.below {W W' : World} {B B2 : Nat} {A : Option Addr} {n : Nat} {ls : List (List Int)} (h : ZsR W B A n ls) (hb : Below B W W') (h2 : B ≤ B2) : ZsR W' B2 A n ls := by
  obtain ⟨vs, h1, h3⟩ := h.ex
  refine ⟨h.len, vs, (h1.below hb).more h2, fun j hj => ?_⟩
  obtain ⟨Aj, cj, e1, e2, e3⟩ := h3 j hj
  exact ⟨Aj, cj, e1, (e2.below hb).more h2, e3⟩
theorem ZsR.at_ {W : World} {B : Nat} {A : Option Addr} {n k : Nat} {ls : List (List Int)} (h : ZsR W B A n ls) (hk : k < n) :
    ∃ ad Aj cj, A = some ad ∧ ad.block < B ∧ W.cell? (ad.add k) = some (.slice Aj (ls.getD k []).length cj) ∧ Reads W B 1 Aj (ls.getD k []).length (ints (ls.getD k [])) ∧ (ls.getD k []).length ≤ maxLen := by
  obtain ⟨vs, h1, h3⟩ := h.ex
  obtain ⟨Aj, cj, e1, e2, e3⟩ := h3 k hk
  obtain ⟨ad, rfl, hb, hc⟩ := h1.2 (by omega)
  exact ⟨ad, Aj, cj, rfl, hb, hc k _ e1, e2, e3⟩
/-- a prior in memory -/
structure PrR (W : World) (B : Nat) (v : Value) (p : Pri) : Prop where
  ex : ∃ A1 c1 A2 c2, v = .agg #[.slice A1 p.wt.length c1, .slice A2 p.cells.length c2] ∧ Reads W B 1 A1 p.wt.length (ints p.wt) ∧ ZsR W B A2 p.cells.length p.cells
  lim : p.wt.length ≤ maxLen ∧ p.cells.length ≤ maxLen
theorem PrR.below {W W' : World} {B B2 : Nat} {v : Value} {p : Pri} (h : PrR W B v p) (hb : Below B W W') (h2 : B ≤ B2) : PrR W' B2 v p := by
  obtain ⟨A1, c1, A2, c2, e, h1, h3⟩ := h.ex
  exact ⟨⟨A1, c1, A2, c2, e, (h1.below hb).more h2, h3.below hb h2⟩, h.lim⟩
theorem PrR.step {W W' : World} {v : Value} {p : Pri} (h : PrR W W.heap.size v p) (hb : Below W.heap.size W W') : PrR W' W'.heap.size v p := h.below hb hb.size
/-- a box of a prior -/
def PBox (W : World) (g : Nat) (v1 v2 : Value) : Prop := W.heap[g]? = some (.cells #[v1, v2] 25 (0, 0))
section
variable {W W' : World} {g : Nat} {v1 v2 : Value}
theorem PBox.c0 (h : PBox W g v1 v2) : W.cell? ⟨g, 0, none⟩ = some v1 := by rw [Lib.cell_of_heap h]; rfl
theorem PBox.c1 (h : PBox W g v1 v2) : W.cell? ⟨g, 1, none⟩ = some v2 := by rw [Lib.cell_of_heap h]; rfl
theorem PBox.free (h : PBox W g v1 v2) (k : Nat) : W.frozen? ⟨g, k, none⟩ = false := Lib.frozen_of_heap h k
theorem PBox.lt (h : PBox W g v1 v2) : g < W.heap.size := (Array.getElem?_eq_some_iff.1 h).1
theorem PBox.below {B : Nat} (h : PBox W g v1 v2) (hb : Below B W W') (hg : g < B) : PBox W' g v1 v2 := (hb.block g hg).trans h
theorem PBox.made (W : World) (v1 v2 : Value) : PBox (W.alloc (.cells #[v1, v2] 25)) W.heap.size v1 v2 := heap_alloc_new W _
theorem PBox.set0 (h : PBox W g v1 v2) (u : Value) : PBox (W.setCell ⟨g, 0, none⟩ u) g u v2 := by
  unfold PBox at *
  simp [World.setCell, Array.getElem?_modify, h]
theorem PBox.set1 (h : PBox W g v1 v2) (u : Value) : PBox (W.setCell ⟨g, 1, none⟩ u) g v1 u := by
  unfold PBox at *
  simp [World.setCell, Array.getElem?_modify, h]
end
theorem chkP_rng {p : Pri} (h : p.wt.length < 1 ∨ 64 < p.wt.length) : chkP p = 2 := by unfold chkP; rw [if_pos h]
theorem chkP_lim {p : Pri} (h : ¬ (p.wt.length < 1 ∨ 64 < p.wt.length)) (h2 : 4 < p.cells.length) : chkP p = 8 := by unfold chkP; rw [if_neg h, if_pos h2]
theorem chkP_wt {p : Pri} (h : ¬ (p.wt.length < 1 ∨ 64 < p.wt.length)) (h2 : ¬ 4 < p.cells.length) {x : Int} (hx : x ∈ p.wt) (h3 : x < 1 ∨ 1000 < x) : chkP p = 2 := by
  unfold chkP; rw [if_neg h, if_neg h2, if_pos]
  exact List.any_eq_true.2 ⟨x, hx, decide_eq_true h3⟩
theorem chkP_cell {p : Pri} (h : ¬ (p.wt.length < 1 ∨ 64 < p.wt.length)) (h2 : ¬ 4 < p.cells.length) (hw : ∀ x ∈ p.wt, ¬ (x < 1 ∨ 1000 < x)) {c : List Int} (hc : c ∈ p.cells) (h3 : c.length ≠ p.wt.length ∨ partErr c ≠ 0) : chkP p = 3 := by
  unfold chkP; rw [if_neg h, if_neg h2, if_neg, if_pos]
  · exact List.any_eq_true.2 ⟨c, hc, decide_eq_true h3⟩
  · intro h4
    obtain ⟨x, hx, h5⟩ := List.any_eq_true.1 h4
    exact hw x hx (of_decide_eq_true h5)
theorem chkP_zero {p : Pri} (h : ¬ (p.wt.length < 1 ∨ 64 < p.wt.length)) (h2 : ¬ 4 < p.cells.length) (hw : ∀ x ∈ p.wt, ¬ (x < 1 ∨ 1000 < x)) (hc : ∀ c ∈ p.cells, ¬ (c.length ≠ p.wt.length ∨ partErr c ≠ 0)) : chkP p = 0 := by
  refine OkP.chk ⟨by omega, by omega, by omega, fun x hx => by have := hw x hx; omega, fun c hd => ?_⟩
  have := hc c hd
  exact ⟨Classical.byContradiction fun h6 => this (.inl h6), Classical.byContradiction fun h6 => this (.inr h6)⟩
set_option maxHeartbeats 4000000 in
theorem aCheck_any (p : Pri) (v : Value) (w : World) (hM : PrR w w.heap.size v p) :
    Calls Tryd.prog 19 #[v] w fun e w' => e = .returned (.int .i64 (chkP p)) ∧ Below w.heap.size w w' := by
  obtain ⟨A1, c1, A2, c2, rfl, hv, hr⟩ := hM.ex
  have hlm := hM.lim
  obtain ⟨wt, cells⟩ := p
  dsimp only at hv hr hlm ⊢
  unfold maxLen at hlm
  by_cases h0 : wt.length < 1 ∨ 64 < wt.length
  · have HV := Lib.hid (chkP_rng (p := ⟨wt, cells⟩) h0)
    clear hM hv hr
    by_cases h1 : wt.length < 1
    · have d0 : decide ((wt.length : Int) < 1) = true := decide_eq_true (by omega)
      go_enter Tryd.func19, Tryd.ntmps19
      go_wp2
      go_ret
      exact ⟨ret_i64 HV.out.symm, (Below.refl _ w).alloc (Nat.le_refl _) _⟩
    · have d0 : decide ((wt.length : Int) < 1) = false := decide_eq_false (by omega)
      have d1 : decide (64 < (wt.length : Int)) = true := decide_eq_true (by omega)
      go_enter Tryd.func19, Tryd.ntmps19
      go_wp2
      go_ret
      exact ⟨ret_i64 HV.out.symm, (Below.refl _ w).alloc (Nat.le_refl _) _⟩
  · have d0 : decide ((wt.length : Int) < 1) = false := decide_eq_false (by omega)
    have d1 : decide (64 < (wt.length : Int)) = false := decide_eq_false (by omega)
    by_cases h2 : 4 < cells.length
    · have HV := Lib.hid (chkP_lim (p := ⟨wt, cells⟩) h0 h2)
      clear hM hv hr
      have d2 : decide ((4 : Int) < (cells.length : Int)) = true := decide_eq_true (by omega)
      go_enter Tryd.func19, Tryd.ntmps19
      go_wp2
      go_ret
      exact ⟨ret_i64 HV.out.symm, (Below.refl _ w).alloc (Nat.le_refl _) _⟩
    · have d2 : decide ((4 : Int) < (cells.length : Int)) = false := decide_eq_false (by omega)
      have HW := Lib.hid (fun x hx h3 => chkP_wt (p := ⟨wt, cells⟩) h0 h2 (x := x) hx h3)
      have HC := Lib.hid (fun hw c hc h3 => chkP_cell (p := ⟨wt, cells⟩) h0 h2 hw (c := c) hc h3)
      have HZ := Lib.hid (fun hw hc => chkP_zero (p := ⟨wt, cells⟩) h0 h2 hw hc)
      have HB := Lib.hid (PBox.made w (.slice A1 wt.length c1) (.slice A2 cells.length c2))
      have HBe : Hid (Below w.heap.size w (w.alloc (.cells #[.slice A1 wt.length c1, .slice A2 cells.length c2] 25))) := Lib.hid ((Below.refl _ w).alloc (Nat.le_refl _) _)
      have HRV := Lib.hid hv
      have HRR := Lib.hid hr
      have hl1 : wt.length ≤ 64 := by omega
      have hl2 : cells.length ≤ 4 := by omega
      have HL1 := Lib.hid (rfl : wt.length = wt.length)
      clear hM hv hr h0 h2 hlm
      generalize hn : wt.length = n at *
      generalize hm : cells.length = m at *
      have HN := Lib.hid hn
      have HM := Lib.hid hm
      clear hn hm
      go_enter Tryd.func19, Tryd.ntmps19
      go_wp2
      generalize w.alloc (.cells #[.slice A1 n c1, .slice A2 m c2] 25) = w1 at *
      have b0 := HB.out.c0
      have b1 := HB.out.c1
      go_loopw [5, 24] (fun _ i wr => ∃ j : Nat, j ≤ n ∧ i = .int .i64 j ∧ Hid (∀ x ∈ wt.take j, ¬ (x < 1 ∨ 1000 < x)) ∧ w1 = wr) (fun _ i _ => n - (intOf i).toNat)
      case atStart => exact ⟨0, Nat.zero_le _, rfl, Lib.hid (by simp), by first | rfl | trivial⟩
      case round =>
        obtain ⟨j, hj, rfl, HT, rfl⟩ := hrel
        by_cases hlt : j < n
        · obtain ⟨ad, rfl, had, hcell⟩ := (HRV.out.below HBe.out).int_at hlt
          have HX : Hid (wt.getD j 0 ∈ wt) := Lib.hid (getD_memP (by rw [HN.out]; exact hlt))
          have HT2 : Hid (¬ (wt.getD j 0 < 1 ∨ 1000 < wt.getD j 0) → ∀ x ∈ wt.take (j + 1), ¬ (x < 1 ∨ 1000 < x)) := Lib.hid (fun h => take_one (d := 0) (by rw [HN.out]; exact hlt) HT.out h)
          clear HT
          generalize wt.getD j 0 = x at *
          by_cases hx1 : x < 1
          · have q1 : decide (x < 1) = true := decide_eq_true hx1
            have HV := Lib.hid (HW.out x HX.out (.inl hx1))
            clear hx1
            go_wp2
            go_ret
            exact ⟨ret_i64 HV.out.symm, HBe.out⟩
          · have q1 : decide (x < 1) = false := decide_eq_false hx1
            by_cases hx2 : 1000 < x
            · have q2 : decide (1000 < x) = true := decide_eq_true hx2
              have HV := Lib.hid (HW.out x HX.out (.inr hx2))
              clear hx1 hx2
              go_wp2
              go_ret
              exact ⟨ret_i64 HV.out.symm, HBe.out⟩
            · have q2 : decide (1000 < x) = false := decide_eq_false hx2
              have HT3 := Lib.hid (HT2.out (by omega))
              clear hx1 hx2 HT2
              go_wp2
              go_roundw
              case rel => exact ⟨j + 1, by omega, by go_num, HT3, by first | rfl | trivial⟩
              case measure => first | (simp [intOf]; done) | (simp [intOf]; omega)
        · have hjq : j = n := by omega
          subst hjq
          have HTW : Hid (∀ x ∈ wt, ¬ (x < 1 ∨ 1000 < x)) := Lib.hid (fun x hx => HT.out x (by rw [List.take_of_length_le (by have := HN.out; omega)]; exact hx))
          clear HT
          go_wp2
          go_loopw [7, 38] (fun _ i wr => ∃ i' : Nat, i' ≤ m ∧ i = .int .i64 i' ∧ Hid (∀ c ∈ cells.take i', ¬ (c.length ≠ j ∨ partErr c ≠ 0)) ∧ w1 = wr) (fun _ i _ => m - (intOf i).toNat)
          case atStart => exact ⟨0, Nat.zero_le _, rfl, Lib.hid (by simp), by first | rfl | trivial⟩
          case round =>
            obtain ⟨i, hi, rfl, HT, rfl⟩ := hrel
            by_cases hlt2 : i < m
            · obtain ⟨ad, Ai, ci, rfl, had, hcell, hri, hli⟩ := (HRR.out.below HBe.out HBe.out.size).at_ hlt2
              have HX : Hid (cells.getD i [] ∈ cells) := Lib.hid (getD_memP (by rw [HM.out]; exact hlt2))
              have HT2 : Hid (¬ ((cells.getD i []).length ≠ j ∨ partErr (cells.getD i []) ≠ 0) → ∀ c ∈ cells.take (i + 1), ¬ (c.length ≠ j ∨ partErr c ≠ 0)) := Lib.hid (fun h => take_one (d := []) (by rw [HM.out]; exact hlt2) HT.out h)
              have HPC := Lib.hid (pCheck_any (cells.getD i []) Ai _ ci w1.heap.size w1 hri hli)
              have hl := HN.out
              clear hri HT
              unfold maxLen at hli
              generalize cells.getD i [] = c at *
              by_cases hx1 : c.length = j
              · have q1 : ((c.length : Int) != (j : Int)) = false := by rw [hx1]; simp
                by_cases hx2 : partErr c = 0
                · rw [hx2] at HPC
                  have HT3 := Lib.hid (HT2.out (by rw [hx1, hx2]; simp))
                  clear hx1 hx2 HT2 hl
                  go_wp2_with fail
                  refine (HPC.out).mono ?_
                  rintro e w2 ⟨rfl, rfl⟩
                  go_wp2
                  go_roundw
                  case rel => exact ⟨i + 1, by omega, by go_num, HT3, by first | rfl | trivial⟩
                  case measure => first | (simp [intOf]; done) | (simp [intOf]; omega)
                · have q2 : (partErr c != 0) = true := by rw [bne_iff_ne]; exact hx2
                  have HV := Lib.hid (HC.out HTW.out c HX.out (.inr hx2))
                  clear hx1 hx2 hl HT2
                  go_wp2_with fail
                  refine (HPC.out).mono ?_
                  rintro e w2 ⟨rfl, rfl⟩
                  go_wp2
                  go_ret
                  exact ⟨ret_i64 HV.out.symm, HBe.out⟩
              · have q1 : ((c.length : Int) != (j : Int)) = true := by rw [bne_iff_ne]; omega
                have HV := Lib.hid (HC.out HTW.out c HX.out (.inl hx1))
                clear hx1 hl HT2
                go_wp2
                go_ret
                exact ⟨ret_i64 HV.out.symm, HBe.out⟩
            · have hij : i = m := by omega
              subst hij
              have HV : Hid (chkP ⟨wt, cells⟩ = 0) := Lib.hid (HZ.out HTW.out (fun c hc => HT.out c (by rw [List.take_of_length_le (by have := HM.out; omega)]; exact hc)))
              clear HT
              go_wp2
              go_ret
              exact ⟨ret_i64 HV.out.symm, HBe.out⟩
end Go.Proofs.YtfbgabcdeecpoaaDoor
/- Layer 24: the reference's check of a prior; sets of worlds on both sides. -/
namespace Go.Proofs.YtfbgabcdeecpoaaDoor
open Go.RowKit Go.Proofs.Ws
set_option maxRecDepth 100000
set_option maxHeartbeats 4000000 in
theorem rCheck_pr (p : Pri) (v : Value) (w : World) (hM : PrR w w.heap.size v p) :
    Calls Tryd.prog 20 #[v] w fun e w' => e = .returned (.int .i64 (chkP p)) ∧ Below w.heap.size w w' := by
  obtain ⟨A1, c1, A2, c2, rfl, hv, hr⟩ := hM.ex
  have hlm := hM.lim
  obtain ⟨wt, cells⟩ := p
  dsimp only at hv hr hlm ⊢
  unfold maxLen at hlm
  by_cases h0 : wt.length < 1 ∨ 64 < wt.length
  · have HV := Lib.hid (chkP_rng (p := ⟨wt, cells⟩) h0)
    clear hM hv hr
    by_cases h1 : wt.length < 1
    · have d0 : decide ((wt.length : Int) < 1) = true := decide_eq_true (by omega)
      go_enter Tryd.func20, Tryd.ntmps20
      go_wp2
      go_ret
      exact ⟨ret_i64 HV.out.symm, (Below.refl _ w).alloc (Nat.le_refl _) _⟩
    · have d0 : decide ((wt.length : Int) < 1) = false := decide_eq_false (by omega)
      have d1 : decide (64 < (wt.length : Int)) = true := decide_eq_true (by omega)
      go_enter Tryd.func20, Tryd.ntmps20
      go_wp2
      go_ret
      exact ⟨ret_i64 HV.out.symm, (Below.refl _ w).alloc (Nat.le_refl _) _⟩
  · have d0 : decide ((wt.length : Int) < 1) = false := decide_eq_false (by omega)
    have d1 : decide (64 < (wt.length : Int)) = false := decide_eq_false (by omega)
    by_cases h2 : 4 < cells.length
    · have HV := Lib.hid (chkP_lim (p := ⟨wt, cells⟩) h0 h2)
      clear hM hv hr
      have d2 : decide ((4 : Int) < (cells.length : Int)) = true := decide_eq_true (by omega)
      go_enter Tryd.func20, Tryd.ntmps20
      go_wp2
      go_ret
      exact ⟨ret_i64 HV.out.symm, (Below.refl _ w).alloc (Nat.le_refl _) _⟩
    · have d2 : decide ((4 : Int) < (cells.length : Int)) = false := decide_eq_false (by omega)
      have HW := Lib.hid (fun x hx h3 => chkP_wt (p := ⟨wt, cells⟩) h0 h2 (x := x) hx h3)
      have HC := Lib.hid (fun hw c hc h3 => chkP_cell (p := ⟨wt, cells⟩) h0 h2 hw (c := c) hc h3)
      have HZ := Lib.hid (fun hw hc => chkP_zero (p := ⟨wt, cells⟩) h0 h2 hw hc)
      have HB := Lib.hid (PBox.made w (.slice A1 wt.length c1) (.slice A2 cells.length c2))
      have HBe : Hid (Below w.heap.size w (w.alloc (.cells #[.slice A1 wt.length c1, .slice A2 cells.length c2] 25))) := Lib.hid ((Below.refl _ w).alloc (Nat.le_refl _) _)
      have HRV := Lib.hid hv
      have HRR := Lib.hid hr
      have hl1 : wt.length ≤ 64 := by omega
      have hl2 : cells.length ≤ 4 := by omega
      have HL1 := Lib.hid (rfl : wt.length = wt.length)
      clear hM hv hr h0 h2 hlm
      generalize hn : wt.length = n at *
      generalize hm : cells.length = m at *
      have HN := Lib.hid hn
      have HM := Lib.hid hm
      clear hn hm
      go_enter Tryd.func20, Tryd.ntmps20
      go_wp2
      generalize w.alloc (.cells #[.slice A1 n c1, .slice A2 m c2] 25) = w1 at *
      have b0 := HB.out.c0
      have b1 := HB.out.c1
      go_loopw [4] (fun i wr => ∃ j : Nat, j ≤ n ∧ i = .int .i64 j ∧ Hid (∀ x ∈ wt.take j, ¬ (x < 1 ∨ 1000 < x)) ∧ w1 = wr) (fun i _ => n - (intOf i).toNat)
      case atStart => exact ⟨0, Nat.zero_le _, rfl, Lib.hid (by simp), by first | rfl | trivial⟩
      case round =>
        obtain ⟨j, hj, rfl, HT, rfl⟩ := hrel
        by_cases hlt : j < n
        · obtain ⟨ad, rfl, had, hcell⟩ := (HRV.out.below HBe.out).int_at hlt
          have HX : Hid (wt.getD j 0 ∈ wt) := Lib.hid (getD_memP (by rw [HN.out]; exact hlt))
          have HT2 : Hid (¬ (wt.getD j 0 < 1 ∨ 1000 < wt.getD j 0) → ∀ x ∈ wt.take (j + 1), ¬ (x < 1 ∨ 1000 < x)) := Lib.hid (fun h => take_one (d := 0) (by rw [HN.out]; exact hlt) HT.out h)
          clear HT
          generalize wt.getD j 0 = x at *
          by_cases hx1 : x < 1
          · have q1 : decide (x < 1) = true := decide_eq_true hx1
            have HV := Lib.hid (HW.out x HX.out (.inl hx1))
            clear hx1
            go_wp2
            go_ret
            exact ⟨ret_i64 HV.out.symm, HBe.out⟩
          · have q1 : decide (x < 1) = false := decide_eq_false hx1
            by_cases hx2 : 1000 < x
            · have q2 : decide (1000 < x) = true := decide_eq_true hx2
              have HV := Lib.hid (HW.out x HX.out (.inr hx2))
              clear hx1 hx2
              go_wp2
              go_ret
              exact ⟨ret_i64 HV.out.symm, HBe.out⟩
            · have q2 : decide (1000 < x) = false := decide_eq_false hx2
              have HT3 := Lib.hid (HT2.out (by omega))
              clear hx1 hx2 HT2
              go_wp2
              go_roundw
              case rel => exact ⟨j + 1, by omega, by go_num, HT3, by first | rfl | trivial⟩
              case measure => first | (simp [intOf]; done) | (simp [intOf]; omega)
        · have hjq : j = n := by omega
          subst hjq
          have HTW : Hid (∀ x ∈ wt, ¬ (x < 1 ∨ 1000 < x)) := Lib.hid (fun x hx => HT.out x (by rw [List.take_of_length_le (by have := HN.out; omega)]; exact hx))
          clear HT
          go_wp2
          go_loopw [5] (fun i wr => ∃ i' : Nat, i' ≤ m ∧ i = .int .i64 i' ∧ Hid (∀ c ∈ cells.take i', ¬ (c.length ≠ j ∨ partErr c ≠ 0)) ∧ w1 = wr) (fun i _ => m - (intOf i).toNat)
          case atStart => exact ⟨0, Nat.zero_le _, rfl, Lib.hid (by simp), by first | rfl | trivial⟩
          case round =>
            obtain ⟨i, hi, rfl, HT, rfl⟩ := hrel
            by_cases hlt2 : i < m
            · obtain ⟨ad, Ai, ci, rfl, had, hcell, hri, hli⟩ := (HRR.out.below HBe.out HBe.out.size).at_ hlt2
              have HX : Hid (cells.getD i [] ∈ cells) := Lib.hid (getD_memP (by rw [HM.out]; exact hlt2))
              have HT2 : Hid (¬ ((cells.getD i []).length ≠ j ∨ partErr (cells.getD i []) ≠ 0) → ∀ c ∈ cells.take (i + 1), ¬ (c.length ≠ j ∨ partErr c ≠ 0)) := Lib.hid (fun h => take_one (d := []) (by rw [HM.out]; exact hlt2) HT.out h)
              have HPC := Lib.hid (pRefCheck_any (cells.getD i []) Ai _ ci w1.heap.size w1 hri hli)
              have hl := HN.out
              clear hri HT
              unfold maxLen at hli
              generalize cells.getD i [] = c at *
              by_cases hx1 : c.length = j
              · have q1 : ((c.length : Int) != (j : Int)) = false := by rw [hx1]; simp
                by_cases hx2 : partErr c = 0
                · rw [hx2] at HPC
                  have HT3 := Lib.hid (HT2.out (by rw [hx1, hx2]; simp))
                  clear hx1 hx2 HT2 hl
                  go_wp2_with fail
                  refine (HPC.out).mono ?_
                  rintro e w2 ⟨rfl, rfl⟩
                  go_wp2
                  go_roundw
                  case rel => exact ⟨i + 1, by omega, by go_num, HT3, by first | rfl | trivial⟩
                  case measure => first | (simp [intOf]; done) | (simp [intOf]; omega)
                · have q2 : (partErr c != 0) = true := by rw [bne_iff_ne]; exact hx2
                  have HV := Lib.hid (HC.out HTW.out c HX.out (.inr hx2))
                  clear hx1 hx2 hl HT2
                  go_wp2_with fail
                  refine (HPC.out).mono ?_
                  rintro e w2 ⟨rfl, rfl⟩
                  go_wp2
                  go_ret
                  exact ⟨ret_i64 HV.out.symm, HBe.out⟩
              · have q1 : ((c.length : Int) != (j : Int)) = true := by rw [bne_iff_ne]; omega
                have HV := Lib.hid (HC.out HTW.out c HX.out (.inl hx1))
                clear hx1 hl HT2
                go_wp2
                go_ret
                exact ⟨ret_i64 HV.out.symm, HBe.out⟩
            · have hij : i = m := by omega
              subst hij
              have HV : Hid (chkP ⟨wt, cells⟩ = 0) := Lib.hid (HZ.out HTW.out (fun c hc => HT.out c (by rw [List.take_of_length_le (by have := HM.out; omega)]; exact hc)))
              clear HT
              go_wp2
              go_ret
              exact ⟨ret_i64 HV.out.symm, HBe.out⟩
theorem rBit01_any (n : Nat) (w : World) (h : n < 64) :
    Calls Tryd.prog 83 #[.int .i64 n] w fun e w' => e = .returned (.int .u64 (p2 n : Int)) ∧ w = w' := by
  go_enter Tryd.func83, Tryd.ntmps83
  go_wp2
  go_ret
  exact ⟨ret_u64 (wrap_pow n h), rfl⟩
theorem rHas01_any (s : Nat) (n : Int) (w : World) (hs : s < 18446744073709551616) :
    Calls Tryd.prog 66 #[.int .u64 s, .int .i64 n] w fun e w' => e = .returned (.bool (hasB s n)) ∧ w = w' := by
  by_cases h : 0 ≤ n ∧ n < 64
  · obtain ⟨k, rfl⟩ := Int.eq_ofNat_of_zero_le h.1
    have hk : k < 64 := by omega
    have hh := and_pow s k hs hk
    have HF : Hid (hasB s k = s.testBit k) := Lib.hid (by unfold hasB; rw [decide_eq_true h]; simp)
    clear hs h
    go_enter Tryd.func66, Tryd.ntmps66
    go_wp2_with (go_at_call 83; refine (rBit01_any _ _ (by omega)).mono ?_; rintro e w' ⟨rfl, rfl⟩)
    go_ret
    exact ⟨ret_bool (by rw [HF.out]), rfl⟩
  · have HF : Hid (hasB s n = false) := Lib.hid (by unfold hasB; simp; omega)
    clear hs
    by_cases h0 : 0 ≤ n
    · have h1 : ¬ n < 64 := by omega
      clear h
      go_enter Tryd.func66, Tryd.ntmps66
      go_wp2
      go_ret
      exact ⟨ret_bool (by rw [HF.out]), rfl⟩
    · clear h
      go_enter Tryd.func66, Tryd.ntmps66
      go_wp2
      go_ret
      exact ⟨ret_bool (by rw [HF.out]), rfl⟩
theorem wAll_any (n : Int) (w : World) :
    Calls Tryd.prog 76 #[.int .i64 n] w fun e w' => e = .returned (.int .u64 (allV n : Int)) ∧ w = w' := by
  by_cases h0 : 0 ≤ n
  · by_cases h1 : n ≤ 64
    · obtain ⟨k, rfl⟩ := Int.eq_ofNat_of_zero_le h0
      have hk : ¬ (64 < (k : Int)) := by omega
      have hv := wrap_allV k (by omega)
      clear h0 h1
      go_enter Tryd.func76, Tryd.ntmps76
      go_wp2
      go_ret
      exact ⟨rfl, rfl⟩
    · have HV : Hid (allV n = 0) := Lib.hid (by unfold allV; rw [if_neg (by omega)])
      go_enter Tryd.func76, Tryd.ntmps76
      go_wp2
      go_ret
      exact ⟨ret_u64 (by rw [HV.out]; rfl), rfl⟩
  · have HV : Hid (allV n = 0) := Lib.hid (by unfold allV; rw [if_neg (by omega)])
    go_enter Tryd.func76, Tryd.ntmps76
    go_wp2
    go_ret
    exact ⟨ret_u64 (by rw [HV.out]; rfl), rfl⟩
theorem rAll01_any (n : Int) (w : World) :
    Calls Tryd.prog 74 #[.int .i64 n] w fun e w' => e = .returned (.int .u64 (allV n : Int)) ∧ w = w' := by
  by_cases h1 : n ≤ 64
  · have h1' : ¬ (64 < n) := by omega
    by_cases h0 : 0 ≤ n
    · obtain ⟨m, rfl⟩ := Int.eq_ofNat_of_zero_le h0
      clear h0 h1'
      go_enter Tryd.func74, Tryd.ntmps74
      go_wp2
      go_loop [3, 4] (fun s i => ∃ k : Nat, k ≤ m ∧ i = .int .i64 k ∧ s = .int .u64 (allV k : Int)) (fun _ i => m - (intOf i).toNat)
      case atStart => exact ⟨0, Nat.zero_le _, rfl, rfl⟩
      case round =>
        obtain ⟨k, hk, rfl, rfl⟩ := hrel
        by_cases hlt : k < m
        · have hs := allV_succ k (by omega)
          go_wp2_with (go_at_call 83; refine (rBit01_any _ _ (by omega)).mono ?_; rintro e w' ⟨rfl, rfl⟩)
          go_round
          case rel => exact ⟨k + 1, by omega, by go_num, by go_num⟩
          case measure => simp [intOf]; omega
        · have hkm : k = m := by omega
          subst hkm
          go_wp2
          go_ret
          exact ⟨rfl, rfl⟩
    · have HV : Hid (allV n = 0) := Lib.hid (by unfold allV; rw [if_neg (by omega)])
      have hn : n ≤ 0 := by omega
      clear h0 h1'
      go_enter Tryd.func74, Tryd.ntmps74
      go_wp2
      go_loop [3, 4] (fun s i => i = .int .i64 0 ∧ s = .int .u64 0) (fun _ i => 0)
      case atStart => exact ⟨rfl, rfl⟩
      case round =>
        obtain ⟨rfl, rfl⟩ := hrel
        go_wp2
        go_ret
        exact ⟨ret_u64 (by rw [HV.out]; rfl), rfl⟩
  · have HV : Hid (allV n = 0) := Lib.hid (by unfold allV; rw [if_neg (by omega)])
    go_enter Tryd.func74, Tryd.ntmps74
    go_wp2
    go_ret
    exact ⟨ret_u64 (by rw [HV.out]; rfl), rfl⟩
theorem wCount_any (s : Nat) (w : World) (hs : s < 18446744073709551616) :
    Calls Tryd.prog 88 #[.int .u64 s] w fun e w' => e = .returned (.int .i64 ((mem s).length : Int)) ∧ w = w' := by
  have H := Lib.hid (ones_any s w hs)
  clear hs
  go_enter Tryd.func88, Tryd.ntmps88
  go_wp2_with (go_at_call 89; refine (H.out).mono ?_; rintro e w' ⟨rfl, rfl⟩)
  go_ret
  exact ⟨rfl, rfl⟩
set_option maxRecDepth 100000 in
set_option maxHeartbeats 1600000 in
theorem wMembers_own (s : Nat) (w : World) (hs : s < 18446744073709551616) (hT : Tab w) :
    Calls Tryd.prog 86 #[.int .u64 s] w (OwnsMem s w) := by
  obtain ⟨i0, hi, hz0, hz1, hz2⟩ := info_parts Tryd.infoI
  have HC := Lib.hid (wCount_any s w hs)
  have HS := Lib.hid hs
  have HT := Lib.hid hT
  have hl := mem_length_le s
  clear hs hT
  go_enter Tryd.func86, Tryd.ntmps86
  go_wp2_with fail
  refine (HC.out).mono ?_
  rintro e w' ⟨rfl, rfl⟩
  go_wp2_with (at_make; refine wpList_make_own _ rfl _ _ 22 rfl w.heap.size 3 i0 (.int .i64 0) 1 Tryd.underlying22 hi hz0 hz1 .i64 .i64 _ (mem s).length rfl rfl rfl ?c1 ?c2 ?c3 ?_)
  case c1 => rw [hz2]; omega
  case c2 => unfold maxLen; omega
  case c3 => omega
  intro w0 hown0 hg0
  have hb0 : Below w.heap.size w w0 := (Below.refl _ _).grown hg0 (Nat.le_refl _) (fun k h => by cases h)
  clear hg0
  go_wp2
  go_loopw [0, 3] (fun sv v wr => ∃ (r : Nat) (L : List Nat), Hid (r < 18446744073709551616) ∧ sv = .int .u64 r ∧ Hid (mem s = L ++ mem r) ∧ wr.ownsRow w.heap.size 3 1 v L.length (iv L) ∧ Below w.heap.size w wr)
    (fun sv _ _ => (intOf sv).toNat)
  case atStart => exact ⟨s, [], HS, rfl, Lib.hid rfl, hown0, hb0⟩
  case round =>
    obtain ⟨r, L, Hr, rfl, HL, hown, hb⟩ := hrel
    by_cases h0 : r = 0
    · subst h0
      have e : mem s = L := by rw [HL.out, mem_zero]; simp
      subst e
      obtain ⟨A, c, rfl, hR⟩ := own_reads hown
      have HR := Lib.hid hown
      clear hown HL Hr HS
      have HB := Lib.hid hb
      clear hR hb hb0 hown0
      go_wp2
      go_ret
      exact ⟨A, c, rfl, HR.out, HB.out⟩
    · have HZ := Lib.hid (tz_any r wr Hr.out h0 (HT.out.belowAt hb HT.out.2))
      have hne : ((r : Int) != 0) = true := by simp; omega
      have hap := andpred r h0 Hr.out
      have H0 := Lib.hid h0
      have hL : L.length ≤ 63 := by have := HL.out; rw [mem_step r h0 Hr.out] at this; have := congrArg List.length this; simp at this; omega
      have hsz := hb.size
      clear h0
      go_wp2_with (first
        | (go_at_call 69; refine (HZ.out).mono ?_; rintro e w' ⟨rfl, rfl⟩)
        | (at_builtin; refine wpList_append_own _ rfl _ _ 22 rfl w.heap.size 3 i0 (.int .i64 0) 1 8 Tryd.underlying22 hi hz0 hz1 hz2 rfl (by decide) _ _ _ rfl (hown.alloc _) ⟨wr.heap.size, 0, none⟩ 1 1 [.int .i64 (low r)] rfl rfl ?c1 ?c2 ?c3 ?c4 ?c5 ?_))
      case c1 =>
        intro j u hj
        match j, hj with
        | 0, hj => simp at hj; subst hj; simp [Addr.add]
      case c2 => intro u hu; simp at hu; subst hu; rfl
      case c3 => unfold maxLen; omega
      case c4 => omega
      case c5 => simp; omega
      · intro v' w1 hown' hgrow _
        have hb1 : Below w.heap.size w w1 := (hb.alloc hsz _).grown hgrow (by simp; omega) (fun j hj => by have := (hown.lt j hj).1; omega)
        clear hgrow hown HZ
        go_wp2
        go_roundw
        case rel => exact ⟨r &&& (r - 1), L ++ [low r], Lib.hid (by have := and_pred_lt r H0.out; have := Hr.out; omega), rfl, Lib.hid (by rw [HL.out, mem_step r H0.out Hr.out]; simp), by rw [iv_append, List.length_append]; exact hown', hb1⟩
        case measure => have := and_pred_lt r H0.out; simp [intOf]; omega
end Go.Proofs.YtfbgabcdeecpoaaDoor
