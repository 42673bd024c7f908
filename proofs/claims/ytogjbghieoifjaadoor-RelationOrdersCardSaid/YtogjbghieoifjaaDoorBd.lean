/- Mathematics of closures: steps told by the pairs that they add, passes over all pairs, the number of pairs. -/
import Derived.Test.YtogjbghieoifjaaDoorRk
namespace Go.Proofs.YtogjbghieoifjaaDoor
open Go.RowKit Go.Proofs.Ws
structure Grows (m : Nat) (st : List Nat → Nat → List Nat) : Prop where
  sh : ∀ l w, Sh m l → w < m → Sh m (st l w)
  up : ∀ l w, Sh m l → w < m → Le l (st l w)
  mono : ∀ l s w, Sh m l → Sh m s → w < m → Le l s → Le (st l w) (st s w)
section
variable {m : Nat} {st : List Nat → Nat → List Nat} {g : List Nat → Nat → Nat → List Nat}
theorem Grows.steps (h : Grows m st) {P : List Nat → Prop} (hP : ∀ l, Sh m l → ((∀ w, w < m → st l w = l) ↔ P l)) : Ws.Steps m P st where
  sh := h.sh
  up := h.up
  keep := fun l w s hl hw hs hp hle => by
    have := h.mono l s w hl hs hw hle
    rwa [(hP s hs).2 hp w hw] at this
  stop := hP
theorem Grows.fix (h : Grows m st) : Ws.Steps m (fun l => ∀ w, w < m → st l w = l) st := h.steps fun _ _ => Iff.rfl
theorem Grows.of_bits (D : List Nat → Nat → Nat → Nat → Prop) (hsh : ∀ l w, Sh m l → w < m → Sh m (st l w))
    (hbit : ∀ l w a b, Sh m l → w < m → (bit (st l w) a b = true ↔ bit l a b = true ∨ D l w a b)) (hD : ∀ l s w a b, Le l s → D l w a b → D s w a b) : Grows m st where
  sh := hsh
  up := fun l w hl hw a b h => (hbit l w a b hl hw).2 (.inl h)
  mono := fun l s w hl hs hw hle a b h => (hbit s w a b hs hw).2 (((hbit l w a b hl hw).1 h).imp (hle a b) (hD l s w a b hle))
theorem pass_le (h : ∀ w, w < m → Grows m (fun l u => g l w u)) {w : Nat} (hw : w < m) {l s : List Nat} (hl : Sh m l) (hs : Sh m s) (hle : Le l s) :
    ∀ k, k ≤ m → Le (run (fun l u => g l w u) l k) (run (fun l u => g l w u) s k)
  | 0, _ => hle
  | k + 1, hk => by
    rw [run_succ, run_succ]
    exact (h w hw).mono _ _ k ((h w hw).fix.run_sh hl k (by omega)).1 ((h w hw).fix.run_sh hs k (by omega)).1 (by omega) (pass_le h hw hl hs hle k (by omega))
theorem Grows.pass (h : ∀ w, w < m → Grows m (fun l u => g l w u)) : Grows m (fun l w => run (fun l u => g l w u) l m) where
  sh := fun _ w hl hw => ((h w hw).fix.run_sh hl m (Nat.le_refl _)).1
  up := fun _ w hl hw => ((h w hw).fix.run_sh hl m (Nat.le_refl _)).2
  mono := fun _ _ _ hl hs hw hle => pass_le h hw hl hs hle m (Nat.le_refl _)
theorem pass_fixed (h : ∀ w, w < m → Grows m (fun l u => g l w u)) {l : List Nat} (hl : Sh m l) :
    (∀ w, w < m → run (fun l u => g l w u) l m = l) ↔ ∀ w, w < m → ∀ u, u < m → g l w u = l :=
  ⟨fun H w hw => ((h w hw).fix.run_fixed hl).1 (H w hw), fun H w hw => ((h w hw).fix.run_fixed hl).2 (H w hw)⟩
end
/-- how many pairs -/
def wt (l : List Nat) : Nat := (l.map fun x => (mem x).length).sum
theorem wt_cons (x : Nat) (l : List Nat) : wt (x :: l) = (mem x).length + wt l := by simp [wt]
theorem mem_len64 (x : Nat) : (mem x).length ≤ 64 := by
  unfold mem
  exact Nat.le_trans (List.length_filter_le _ _) (by simp)
theorem wt_le : ∀ (l : List Nat), wt l ≤ 64 * l.length
  | [] => by simp [wt]
  | x :: l => by
    have h1 := mem_len64 x
    have h2 := wt_le l
    rw [wt_cons, List.length_cons]
    omega
theorem or_sub {x y : Nat} (h : ∀ v, x.testBit v = true → y.testBit v = true) : x ||| y = y := by
  apply Nat.eq_of_testBit_eq
  intro v
  rw [Nat.testBit_or]
  cases hx : x.testBit v
  · rfl
  · rw [h v hx]; rfl
theorem wt_mono : ∀ (l s : List Nat), l.length = s.length → Words l → Words s → (∀ i v, (l.getD i 0).testBit v = true → (s.getD i 0).testBit v = true) → wt l ≤ wt s ∧ (l ≠ s → wt l < wt s)
  | [], [], _, _, _, _ => ⟨Nat.le_refl _, fun h => absurd rfl h⟩
  | [], _ :: _, h, _, _, _ => by cases h
  | _ :: _, [], h, _, _, _ => by cases h
  | x :: l, y :: s, h, hl, hs, hb => by
    have ih := wt_mono l s (by simpa using h) (fun a ha => hl a (List.mem_cons_of_mem _ ha)) (fun a ha => hs a (List.mem_cons_of_mem _ ha)) (fun i v hv => by simpa using hb (i + 1) v (by simpa using hv))
    have hxy : x ||| y = y := or_sub (fun v hv => by simpa using hb 0 v (by simpa using hv))
    have hm := mem_more x y (hl x (by simp)) (hs y (by simp))
    rw [hxy] at hm
    rw [wt_cons, wt_cons]
    by_cases e : x = y
    · subst e
      exact ⟨by have := ih.1; omega, fun hne => by have := ih.2 (fun e2 => hne (by rw [e2])); omega⟩
    · have := hm (fun e2 => e e2.symm)
      have h1 := ih.1
      exact ⟨by omega, fun _ => by omega⟩
theorem sh_words {m : Nat} (hm : m ≤ 64) {l : List Nat} (h : Sh m l) : Words l := fun x hx => pow64 hm (h.2 x hx)
theorem wt_lt {m : Nat} (hm : m ≤ 64) {l s : List Nat} (hl : Sh m l) (hs : Sh m s) (hle : Le l s) (hne : l ≠ s) : wt l < wt s :=
  (wt_mono l s (hl.1.trans hs.1.symm) (sh_words hm hl) (sh_words hm hs) hle).2 hne
theorem wt_top {m : Nat} {l : List Nat} (hl : Sh m l) : wt l ≤ 64 * m := hl.1 ▸ wt_le l
/-- between r and every relation above it that has P -/
structure Mid (m : Nat) (P : List Nat → Prop) (r c : List Nat) : Prop where
  sh : Sh m c
  up : Le r c
  least : ∀ s, Sh m s → P s → Le r s → Le c s
section
variable {m : Nat} {P : List Nat → Prop} {st : List Nat → Nat → List Nat} {r c : List Nat}
theorem Mid.start (hr : Sh m r) : Mid m P r r := ⟨hr, Le.refl r, fun _ _ _ h => h⟩
theorem Mid.runs (h : Ws.Steps m P st) (hc : Mid m P r c) (k : Nat) (hk : k ≤ m) : Mid m P r (run st c k) :=
  ⟨(h.run_sh hc.sh k hk).1, hc.up.trans (h.run_sh hc.sh k hk).2, fun s hs hp hle => h.run_keep hc.sh hs hp (hc.least s hs hp hle) k hk⟩
theorem Mid.next (h : Ws.Steps m P st) (hc : Mid m P r c) : Mid m P r (run st c m) := hc.runs h m (Nat.le_refl _)
theorem Mid.done (h : Ws.Steps m P st) (hc : Mid m P r c) (hf : run st c m = c) : IsClo m P r c := IsClo.of_fixed h hc.sh hc.up hc.least hf
theorem Mid.more (h : Ws.Steps m P st) (hm : m ≤ 64) (hc : Mid m P r c) (hne : run st c m ≠ c) : wt c < wt (run st c m) ∧ wt (run st c m) ≤ 64 * m :=
  ⟨wt_lt hm hc.sh (hc.next h).sh (h.run_sh hc.sh m (Nat.le_refl _)).2 (fun e => hne e.symm), wt_top (hc.next h).sh⟩
end
end Go.Proofs.YtogjbghieoifjaaDoor
