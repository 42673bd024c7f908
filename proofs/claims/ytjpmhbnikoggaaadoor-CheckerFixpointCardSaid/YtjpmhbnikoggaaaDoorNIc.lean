/- Layer 6: texts joined: Bd Rl Be Bp Bq. -/
import Derived.Test.YtjpmhbnikoggaaaDoorNIb
/- Mathematics of closures: steps told by the pairs that they add, passes over all pairs, the number of pairs. -/
namespace Go.Proofs.YtjpmhbnikoggaaaDoor
open Go.RowKit Go.Proofs.Ws
structure Grows (m : Nat) (st : List Nat → Nat → List Nat) : Prop where
  sh : ∀ l w, Sh m l → w < m → Sh m (st l w)
  up : ∀ l w, Sh m l → w < m → Le l (st l w)
  mono : ∀ l s w, Sh m l → Sh m s → w < m → Le l s → Le (st l w) (st s w)
section
variable {m : Nat} {st : List Nat → Nat → List Nat} {g : List Nat → Nat → Nat → List Nat}
theorem Grows.steps (h : Grows m st) {P : List Nat → Prop} (hP : ∀ l, Sh m l → ((∀ w, w < m → st l w = l) ↔ P l)) : Ws.Steps m P st where
  sh := h.sh
  up := h.up
  keep := fun l w s hl hw hs hp hle => by
    have := h.mono l s w hl hs hw hle
    rwa [(hP s hs).2 hp w hw] at this
  stop := hP
theorem Grows.fix (h : Grows m st) : Ws.Steps m (fun l => ∀ w, w < m → st l w = l) st := h.steps fun _ _ => Iff.rfl
theorem Grows.of_bits (D : List Nat → Nat → Nat → Nat → Prop) (hsh : ∀ l w, Sh m l → w < m → Sh m (st l w))
    (hbit : ∀ l w a b, Sh m l → w < m → (bit (st l w) a b = true ↔ bit l a b = true ∨ D l w a b)) (hD : ∀ l s w a b, Le l s → D l w a b → D s w a b) : Grows m st where
  sh := hsh
  up := fun l w hl hw a b h => (hbit l w a b hl hw).2 (.inl h)
  mono := fun l s w hl hs hw hle a b h => (hbit s w a b hs hw).2 (((hbit l w a b hl hw).1 h).imp (hle a b) (hD l s w a b hle))
theorem pass_le (h : ∀ w, w < m → Grows m (fun l u => g l w u)) {w : Nat} (hw : w < m) {l s : List Nat} (hl : Sh m l) (hs : Sh m s) (hle : Le l s) :
    ∀ k, k ≤ m → Le (run (fun l u => g l w u) l k) (run (fun l u => g l w u) s k)
  | 0, _ => hle
  | k + 1, hk => by
    rw [run_succ, run_succ]
    exact (h w hw).mono _ _ k ((h w hw).fix.run_sh hl k (by omega)).1 ((h w hw).fix.run_sh hs k (by omega)).1 (by omega) (pass_le h hw hl hs hle k (by omega))
theorem Grows.pass (h : ∀ w, w < m → Grows m (fun l u => g l w u)) : Grows m (fun l w => run (fun l u => g l w u) l m) where
  sh := fun _ w hl hw => ((h w hw).fix.run_sh hl m (Nat.le_refl _)).1
  up := fun _ w hl hw => ((h w hw).fix.run_sh hl m (Nat.le_refl _)).2
  mono := fun _ _ _ hl hs hw hle => pass_le h hw hl hs hle m (Nat.le_refl _)
end
/-- how many pairs -/
def wt (l : List Nat) : Nat := (l.map fun x => (mem x).length).sum
theorem wt_cons (x : Nat) (l : List Nat) : wt (x :: l) = (mem x).length + wt l := by simp [wt]
theorem mem_len64 (x : Nat) : (mem x).length ≤ 64 := by
  unfold mem
  exact Nat.le_trans (List.length_filter_le _ _) (by simp)
theorem wt_le : ∀ (l : List Nat), wt l ≤ 64 * l.length
  | [] => by simp [wt]
  | x :: l => by
    have h1 := mem_len64 x
    have h2 := wt_le l
    rw [wt_cons, List.length_cons]
    omega
theorem or_sub {x y : Nat} (h : ∀ v, x.testBit v = true → y.testBit v = true) : x ||| y = y := by
  apply Nat.eq_of_testBit_eq
  intro v
  rw [Nat.testBit_or]
  cases hx : x.testBit v
  · rfl
  · rw [h v hx]; rfl
theorem wt_mono : ∀ (l s : List Nat), l.length = s.length → Words l → Words s → (∀ i v, (l.getD i 0).testBit v = true → (s.getD i 0).testBit v = true) → wt l ≤ wt s ∧ (l ≠ s → wt l < wt s)
  | [], [], _, _, _, _ => ⟨Nat.le_refl _, fun h => absurd rfl h⟩
  | [], _ :: _, h, _, _, _ => by cases h
  | _ :: _, [], h, _, _, _ => by cases h
  | x :: l, y :: s, h, hl, hs, hb => by
    have ih := wt_mono l s (by simpa using h) (fun a ha => hl a (List.mem_cons_of_mem _ ha)) (fun a ha => hs a (List.mem_cons_of_mem _ ha)) (fun i v hv => by simpa using hb (i + 1) v (by simpa using hv))
    have hxy : x ||| y = y := or_sub (fun v hv => by simpa using hb 0 v (by simpa using hv))
    have hm := mem_more x y (hl x (by simp)) (hs y (by simp))
    rw [hxy] at hm
    rw [wt_cons, wt_cons]
    by_cases e : x = y
    · subst e
      exact ⟨by have := ih.1; omega, fun hne => by have := ih.2 (fun e2 => hne (by rw [e2])); omega⟩
    · have := hm (fun e2 => e e2.symm)
      have h1 := ih.1
      exact ⟨by omega, fun _ => by omega⟩
theorem sh_words {m : Nat} (hm : m ≤ 64) {l : List Nat} (h : Sh m l) : Words l := fun x hx => pow64 hm (h.2 x hx)
theorem wt_lt {m : Nat} (hm : m ≤ 64) {l s : List Nat} (hl : Sh m l) (hs : Sh m s) (hle : Le l s) (hne : l ≠ s) : wt l < wt s :=
  (wt_mono l s (hl.1.trans hs.1.symm) (sh_words hm hl) (sh_words hm hs) hle).2 hne
theorem wt_top {m : Nat} {l : List Nat} (hl : Sh m l) : wt l ≤ 64 * m := hl.1 ▸ wt_le l
/-- between r and every relation above it that has P -/
structure Mid (m : Nat) (P : List Nat → Prop) (r c : List Nat) : Prop where
  sh : Sh m c
  up : Le r c
  least : ∀ s, Sh m s → P s → Le r s → Le c s
section
variable {m : Nat} {P : List Nat → Prop} {st : List Nat → Nat → List Nat} {r c : List Nat}
theorem Mid.start (hr : Sh m r) : Mid m P r r := ⟨hr, Le.refl r, fun _ _ _ h => h⟩
theorem Mid.runs (h : Ws.Steps m P st) (hc : Mid m P r c) (k : Nat) (hk : k ≤ m) : Mid m P r (run st c k) :=
  ⟨(h.run_sh hc.sh k hk).1, hc.up.trans (h.run_sh hc.sh k hk).2, fun s hs hp hle => h.run_keep hc.sh hs hp (hc.least s hs hp hle) k hk⟩
theorem Mid.next (h : Ws.Steps m P st) (hc : Mid m P r c) : Mid m P r (run st c m) := hc.runs h m (Nat.le_refl _)
theorem Mid.done (h : Ws.Steps m P st) (hc : Mid m P r c) (hf : run st c m = c) : IsClo m P r c := IsClo.of_fixed h hc.sh hc.up hc.least hf
theorem Mid.more (h : Ws.Steps m P st) (hm : m ≤ 64) (hc : Mid m P r c) (hne : run st c m ≠ c) : wt c < wt (run st c m) ∧ wt (run st c m) ≤ 64 * m :=
  ⟨wt_lt hm hc.sh (hc.next h).sh (h.run_sh hc.sh m (Nat.le_refl _)).2 (fun e => hne e.symm), wt_top (hc.next h).sh⟩
end
end Go.Proofs.YtjpmhbnikoggaaaDoor
/- Contracts of layer 2: the symmetric step of the closures, which ranges over the points of a row. -/
namespace Go.Proofs.YtjpmhbnikoggaaaDoor
open Go.RowKit Go.Shelf Go.Proofs.Ws
attribute [local go_sem] Oper.semAt_some
end Go.Proofs.YtjpmhbnikoggaaaDoor
/- The four steps of the program and the two of the reference are steps of closures; the reference's reflexive and symmetric closures are the least ones. -/
namespace Go.Proofs.YtjpmhbnikoggaaaDoor
open Go.RowKit Go.Proofs.Ws
theorem sh_getD {m : Nat} {l : List Nat} (h : Sh m l) (k : Nat) : l.getD k 0 < 2 ^ m := by
  rw [List.getD_eq_getElem?_getD]
  by_cases hk : k < l.length
  · rw [List.getElem?_eq_getElem hk]; exact h.2 _ (List.getElem_mem hk)
  · rw [List.getElem?_eq_none (by omega)]; exact Nat.two_pow_pos m
theorem foldOr_bit (R : List Nat) (b : Nat) : ∀ (ks : List Nat) (a : Nat), (ks.foldl (fun a k => a ||| R.getD k 0) a).testBit b = true ↔ a.testBit b = true ∨ ∃ u, u ∈ ks ∧ bit R u b = true
  | [], a => by simp
  | k :: ks, a => by
    rw [List.foldl_cons, foldOr_bit R b ks, Nat.testBit_or, Bool.or_eq_true]
    unfold bit
    constructor
    · rintro ((h | h) | ⟨u, hu, h⟩)
      · exact .inl h
      · exact .inr ⟨k, by simp, h⟩
      · exact .inr ⟨u, by simp [hu], h⟩
    · rintro (h | ⟨u, hu, h⟩)
      · exact .inl (.inl h)
      · rcases List.mem_cons.1 hu with rfl | hu
        · exact .inl (.inr h)
        · exact .inr ⟨u, hu, h⟩
theorem bit_len {R : List Nat} {u b : Nat} (h : bit R u b = true) : u < R.length := by
  apply Classical.byContradiction
  intro hn
  unfold bit at h
  rw [List.getD_eq_getElem?_getD, List.getElem?_eq_none (by omega)] at h
  simp at h
theorem imgV_bit (R : List Nat) (x b : Nat) (h : R.length ≤ 64) : (imgV R x).testBit b = true ↔ ∃ u, x.testBit u = true ∧ bit R u b = true := by
  unfold imgV imgL
  rw [foldOr_bit, mem_below x _ h]
  simp only [Nat.zero_testBit, Bool.false_eq_true, false_or, List.mem_filter, List.mem_range]
  exact ⟨fun ⟨u, ⟨_, h1⟩, h2⟩ => ⟨u, h1, h2⟩, fun ⟨u, h1, h2⟩ => ⟨u, ⟨bit_len h2, h1⟩, h2⟩⟩
/-- the reference's symmetric closure is the least one -/
theorem convV_bit (R : List Nat) (a b : Nat) : bit (convV R) a b = true ↔ bit R b a = true ∧ a < R.length := by
  have key : ∀ n, n ≤ R.length → ((colU R a n).testBit b = true ↔ b < n ∧ bit R b a = true) := by
    intro n
    induction n with
    | zero => intro _; simp [colU]
    | succ n ih =>
      intro hn
      rw [colU_succ]
      have ih := ih (by omega)
      split
      · rename_i h
        rw [Nat.testBit_or, Bool.or_eq_true, ih, p2_bit, decide_eq_true_eq]
        constructor
        · rintro (⟨h1, h2⟩ | rfl)
          · exact ⟨by omega, h2⟩
          · exact ⟨by omega, h⟩
        · rintro ⟨h1, h2⟩
          by_cases e : n = b
          · exact .inr e
          · exact .inl ⟨by omega, h2⟩
      · rename_i h
        rw [ih]
        constructor
        · rintro ⟨h1, h2⟩; exact ⟨by omega, h2⟩
        · rintro ⟨h1, h2⟩
          by_cases e : b = n
          · subst e; exact absurd h2 h
          · exact ⟨by omega, h2⟩
  by_cases ha : a < R.length
  · have e : bit (convV R) a b = (colU R a R.length).testBit b := by
      unfold bit convV
      rw [List.getD_eq_getElem?_getD, List.getElem?_map, List.getElem?_range ha]; rfl
    rw [e, key _ (Nat.le_refl _)]
    exact ⟨fun h => ⟨h.2, ha⟩, fun h => ⟨bit_len h.1, h.1⟩⟩
  · constructor
    · intro h; have := bit_len h; rw [conv_len] at this; exact absurd this ha
    · rintro ⟨_, h⟩; exact absurd h ha
end Go.Proofs.YtjpmhbnikoggaaaDoor
/- Mathematics of paths: the points from which so many steps lead to a set, the walk down, the first hit. -/
namespace Go.Proofs.YtjpmhbnikoggaaaDoor
open Go.RowKit Go.Proofs.Ws
/-- the points with a successor in a set -/
def dia (R : List Nat) (s : Nat) : Nat := whV (pDia s) R
theorem whU_bit (p : Nat → Bool) (R : List Nat) (w : Nat) : ∀ n, (whU p R n).testBit w = true ↔ w < n ∧ p (R.getD w 0) = true
  | 0 => by simp [whU]
  | n + 1 => by
    rw [whU_succ]
    split
    · rename_i h
      rw [Nat.testBit_or, Bool.or_eq_true, whU_bit p R w n, p2_bit, decide_eq_true_eq]
      constructor
      · rintro (⟨h1, h2⟩ | rfl)
        · exact ⟨by omega, h2⟩
        · exact ⟨by omega, h⟩
      · rintro ⟨h1, h2⟩
        by_cases e : n = w
        · exact .inr e
        · exact .inl ⟨by omega, h2⟩
    · rename_i h
      rw [whU_bit p R w n]
      constructor
      · rintro ⟨h1, h2⟩; exact ⟨by omega, h2⟩
      · rintro ⟨h1, h2⟩
        by_cases e : w = n
        · subst e; exact absurd h2 h
        · exact ⟨by omega, h2⟩
theorem dia_bit {R : List Nat} {n : Nat} (h0 : relErr n R = 0) (hl : R.length = n) (s w : Nat) : (dia R s).testBit w = true ↔ w < n ∧ R.getD w 0 &&& s ≠ 0 := by
  unfold dia whV
  rw [hl, if_pos h0, whU_bit]
  unfold pDia
  rw [decide_eq_true_eq]
theorem and_allV {x n : Nat} (hn : n ≤ 64) (h : x < 2 ^ n) : x &&& allV n = x := by
  rw [allV_nat n hn]
  apply Nat.eq_of_testBit_eq
  intro v
  rw [Nat.testBit_and, Nat.testBit_two_pow_sub_one]
  cases hx : x.testBit v
  · rfl
  · have : v < n := by
      apply Classical.byContradiction
      intro hv
      rw [Nat.testBit_lt_two_pow (Nat.lt_of_lt_of_le h (Nat.pow_le_pow_right (by decide) (by omega)))] at hx
      cases hx
    simp [this]
/-- the points from which so many steps lead to a set -/
def lvl (R : List Nat) (s : Nat) : Nat → Nat
  | 0 => s
  | k + 1 => dia R (lvl R s k)
/-- the walk down from a level: the lowest point that can still arrive -/
def down (R : List Nat) (f : Nat → Nat) : Nat → Nat → List Nat
  | 0, _ => []
  | c + 1, x => low (x &&& f c) :: down R f c (R.getD (low (x &&& f c)) 0)
theorem down_len (R : List Nat) (f : Nat → Nat) : ∀ c x, (down R f c x).length = c
  | 0, _ => rfl
  | c + 1, x => by rw [down, List.length_cons, down_len R f c]
/-- a state of the walk: c levels are left, x is what the next point is taken from -/
structure OnWay (R : List Nat) (n : Nat) (s K c x : Nat) : Prop where
  le : c ≤ K + 2
  lt : x < 18446744073709551616
  hit : 0 < c → x &&& lvl R s (c - 1) ≠ 0
  row : c ≤ K + 1 → x < 2 ^ n
theorem OnWay.start {R : List Nat} {n s K x : Nat} (hx : x < 18446744073709551616) (h : x &&& lvl R s (K + 1) ≠ 0) : OnWay R n s K (K + 2) x :=
  ⟨Nat.le_refl _, hx, fun _ => h, fun h => absurd h (by omega)⟩
theorem low_in {y : Nat} (h0 : y ≠ 0) (h : y < 18446744073709551616) : y.testBit (low y) = true ∧ low y < 64 := by
  refine ⟨testBit_low y h0 h, ?_⟩
  obtain ⟨_, _, h2⟩ := low_form y h0 h
  exact h2
section
variable {R : List Nat} {n s K c x : Nat}
theorem OnWay.point (h0 : relErr n R = 0) (hl : R.length = n) (h : OnWay R n s K (c + 1) x) : low (x &&& lvl R s c) < n ∧ x.testBit (low (x &&& lvl R s c)) = true ∧ (lvl R s c).testBit (low (x &&& lvl R s c)) = true := by
  have hne := h.hit (by omega)
  rw [Nat.add_sub_cancel] at hne
  have hb := low_in hne (Nat.lt_of_le_of_lt Nat.and_le_left h.lt)
  rw [Nat.testBit_and, Bool.and_eq_true] at hb
  refine ⟨?_, hb.1.1, hb.1.2⟩
  cases c with
  | succ c =>
    have : (dia R (lvl R s c)).testBit (low (x &&& lvl R s (c + 1))) = true := hb.1.2
    exact ((dia_bit h0 hl _ _).1 this).1
  | zero =>
    have hx := h.row (by omega)
    apply Classical.byContradiction
    intro hn
    have h1 := hb.1.1
    rw [Nat.testBit_lt_two_pow (Nat.lt_of_lt_of_le hx (Nat.pow_le_pow_right (by decide) (by omega)))] at h1
    cases h1
theorem OnWay.next (h0 : relErr n R = 0) (hl : R.length = n) (h : OnWay R n s K (c + 1) x) : OnWay R n s K c (R.getD (low (x &&& lvl R s c)) 0) where
  le := by have := h.le; omega
  lt := pow64 (relErr_zero h0) (sh_getD ⟨hl, relErr_rows h0⟩ _)
  hit := fun hc => by
    obtain ⟨c, rfl⟩ : ∃ c', c = c' + 1 := ⟨c - 1, by omega⟩
    exact ((dia_bit h0 hl _ _).1 (h.point h0 hl).2.2).2
  row := fun _ => sh_getD ⟨hl, relErr_rows h0⟩ _
theorem OnWay.small (h0 : relErr n R = 0) (hl : R.length = n) (h : OnWay R n s K (c + 1) x) : low (x &&& lvl R s c) < 64 := by
  have := (h.point h0 hl).1
  have := relErr_zero h0
  omega
end
/-- the path, by its definition -/
def PathIs (R : List Nat) (n frm s : Nat) (p : List Nat) : Prop :=
  (relErr n R ≠ 0 ∧ p = []) ∨ (relErr n R = 0 ∧ (∀ j, j < n → frm &&& lvl R s (j + 1) = 0) ∧ p = []) ∨
  (relErr n R = 0 ∧ ∃ K, K < n ∧ (∀ j, j < K → frm &&& lvl R s (j + 1) = 0) ∧ frm &&& lvl R s (K + 1) ≠ 0 ∧ p = down R (lvl R s) (K + 2) frm)
theorem PathIs.unique {R : List Nat} {n frm s : Nat} {p q : List Nat} (h : PathIs R n frm s p) (k : PathIs R n frm s q) : p = q := by
  rcases h with ⟨h0, rfl⟩ | ⟨h0, h1, rfl⟩ | ⟨h0, K, hK, h1, h2, rfl⟩
  · rcases k with ⟨_, rfl⟩ | ⟨k0, _⟩ | ⟨k0, _⟩
    · rfl
    · exact absurd k0 h0
    · exact absurd k0 h0
  · rcases k with ⟨_, rfl⟩ | ⟨_, _, rfl⟩ | ⟨_, K, hK, _, k2, _⟩
    · rfl
    · rfl
    · exact absurd (h1 K hK) k2
  · rcases k with ⟨k0, _⟩ | ⟨_, k1, _⟩ | ⟨_, K', hK', k1, k2, rfl⟩
    · exact absurd h0 k0
    · exact absurd (k1 K hK) h2
    · have : K = K' := by
        rcases Nat.lt_trichotomy K K' with h | h | h
        · exact absurd (k1 K h) h2
        · exact h
        · exact absurd (h1 K' h) k2
      rw [this]
end Go.Proofs.YtjpmhbnikoggaaaDoor
/- Mathematics for the laws of layer 2: duality of box and diamond, composition, paths and what is reached. -/
namespace Go.Proofs.YtjpmhbnikoggaaaDoor
open Go.RowKit Go.Proofs.Ws
theorem not_bit (y v : Nat) (hy : y < 18446744073709551616) : (18446744073709551615 - y).testBit v = (decide (v < 64) && !y.testBit v) := by
  have := Nat.testBit_two_pow_sub_succ (n := 64) hy v
  rw [← this]
  congr 1
  omega
/-- contained -/
theorem sub_iff (x y : Nat) (hx : x < 18446744073709551616) (hy : y < 18446744073709551616) : x &&& (18446744073709551615 - y) = 0 ↔ ∀ v, x.testBit v = true → y.testBit v = true := by
  constructor
  · intro h v hv
    have : (x &&& (18446744073709551615 - y)).testBit v = false := by rw [h]; simp
    rw [Nat.testBit_and, hv, not_bit y v hy] at this
    have h64 : v < 64 := Classical.byContradiction fun hn => by rw [bit_ge x v hx (by omega)] at hv; cases hv
    simp [h64] at this
    exact this
  · intro h
    apply Nat.eq_of_testBit_eq
    intro v
    rw [Nat.testBit_and, not_bit y v hy, Nat.zero_testBit]
    cases hv : x.testBit v
    · rfl
    · rw [h v hv]; simp
theorem meets_iff (x y : Nat) : x &&& y ≠ 0 ↔ ∃ v, x.testBit v = true ∧ y.testBit v = true := by
  constructor
  · intro h
    apply Classical.byContradiction
    intro hn
    apply h
    apply Nat.eq_of_testBit_eq
    intro v
    rw [Nat.testBit_and, Nat.zero_testBit]
    cases hx : x.testBit v
    · rfl
    · cases hy : y.testBit v
      · rfl
      · exact absurd ⟨v, hx, hy⟩ hn
  · rintro ⟨v, hx, hy⟩ h
    have : (x &&& y).testBit v = false := by rw [h]; simp
    rw [Nat.testBit_and, hx, hy] at this
    cases this
def box (R : List Nat) (s : Nat) : Nat := whV (pBox s) R
section
variable {R : List Nat} {n : Nat} (h0 : relErr n R = 0) (hl : R.length = n)
include h0 hl
theorem rel_sh : Sh n R := ⟨hl, relErr_rows h0⟩
theorem box_bit (s w : Nat) (hs : s < 18446744073709551616) : (box R s).testBit w = true ↔ w < n ∧ ∀ v, bit R w v = true → s.testBit v = true := by
  unfold box whV
  rw [hl, if_pos h0, whU_bit]
  unfold pBox
  rw [decide_eq_true_eq, sub_iff _ _ (pow64 (relErr_zero h0) (sh_getD (rel_sh h0 hl) w)) hs]
  exact Iff.rfl
theorem dia_iff (s w : Nat) : (dia R s).testBit w = true ↔ ∃ v, bit R w v = true ∧ s.testBit v = true := by
  rw [dia_bit h0 hl, meets_iff]
  constructor
  · rintro ⟨_, h⟩; exact h
  · rintro ⟨v, h1, h2⟩; exact ⟨(bit_in (rel_sh h0 hl) h1).1, v, h1, h2⟩
end
theorem allV_bit (n v : Nat) (hn : n ≤ 64) : (allV n).testBit v = decide (v < n) := by
  rw [allV_nat n hn, Nat.testBit_two_pow_sub_one]
theorem conv_err {R : List Nat} {n : Nat} (h0 : relErr n R = 0) (hl : R.length = n) : relErr n (convV R) = 0 := by
  subst hl
  have h2 := relErr_ok (l := convV R) (by rw [conv_len]; exact relErr_zero h0) (by rw [conv_len]; exact conv_in R)
  rwa [conv_len] at h2
theorem conv_bit {R : List Nat} {n : Nat} (h0 : relErr n R = 0) (hl : R.length = n) (a b : Nat) : bit (convV R) a b = true ↔ bit R b a = true := by
  rw [convV_bit]
  exact ⟨fun h => h.1, fun h => ⟨h, by rw [hl]; exact (bit_in (rel_sh h0 hl) h).2⟩⟩
theorem sh_errQ {R : List Nat} {n : Nat} (hn : n ≤ 64) (hR : Sh n R) : relErr n R = 0 := by
  have := relErr_ok (l := R) (by rw [hR.1]; exact hn) (by rw [hR.1]; exact hR.2)
  rwa [hR.1] at this
theorem conv_sh' {R : List Nat} {n : Nat} (hR : Sh n R) : Sh n (convV R) := ⟨by rw [conv_len, hR.1], by rw [← hR.1]; exact conv_in R⟩
section
variable {R S T : List Nat} {n : Nat} (hn : n ≤ 64) (hR : Sh n R) (hS : Sh n S)
include hn hR hS
end
end Go.Proofs.YtjpmhbnikoggaaaDoor
