/- Layer 6: texts joined: Bd Rl Be Bp Bq. -/
import Derived.Test.YtjpmhbnikoggaaaGreatDoorNIb
/- Mathematics of closures: steps told by the pairs that they add, passes over all pairs, the number of pairs. -/
namespace Go.Proofs.YtjpmhbnikoggaaaGreatDoor
open Go.RowKit Go.Proofs.Ws
structure Grows (m : Nat) (st : List Nat → Nat → List Nat) : Prop where
  sh : ∀ l w, Sh m l → w < m → Sh m (st l w)
  up : ∀ l w, Sh m l → w < m → Le l (st l w)
  mono : ∀ l s w, Sh m l → Sh m s → w < m → Le l s → Le (st l w) (st s w)
section
variable {m : Nat} {st : List Nat → Nat → List Nat} {g : List Nat → Nat → Nat → List Nat}
theorem Grows.steps (h : Grows m st) {P : List Nat → Prop} (hP : ∀ l, Sh m l → ((∀ w, w < m → st l w = l) ↔ P l)) : Ws.Steps m P st where
  sh := h.sh
  up := h.up
  keep := fun l w s hl hw hs hp hle => by
    have := h.mono l s w hl hs hw hle
    rwa [(hP s hs).2 hp w hw] at this
  stop := hP
theorem Grows.fix (h : Grows m st) : Ws.Steps m (fun l => ∀ w, w < m → st l w = l) st := h.steps fun _ _ => Iff.rfl
theorem Grows.of_bits (D : List Nat → Nat → Nat → Nat → Prop) (hsh : ∀ l w, Sh m l → w < m → Sh m (st l w))
    (hbit : ∀ l w a b, Sh m l → w < m → (bit (st l w) a b = true ↔ bit l a b = true ∨ D l w a b)) (hD : ∀ l s w a b, Le l s → D l w a b → D s w a b) : Grows m st where
  sh := hsh
  up := fun l w hl hw a b h => (hbit l w a b hl hw).2 (.inl h)
  mono := fun l s w hl hs hw hle a b h => (hbit s w a b hs hw).2 (((hbit l w a b hl hw).1 h).imp (hle a b) (hD l s w a b hle))
end
/-- how many pairs -/
def wt (l : List Nat) : Nat := (l.map fun x => (mem x).length).sum
theorem wt_cons (x : Nat) (l : List Nat) : wt (x :: l) = (mem x).length + wt l := by simp [wt]
theorem mem_len64 (x : Nat) : (mem x).length ≤ 64 := by
  unfold mem
  exact Nat.le_trans (List.length_filter_le _ _) (by simp)
theorem wt_le : ∀ (l : List Nat), wt l ≤ 64 * l.length
  | [] => by simp [wt]
  | x :: l => by
    have h1 := mem_len64 x
    have h2 := wt_le l
    rw [wt_cons, List.length_cons]
    omega
theorem or_sub {x y : Nat} (h : ∀ v, x.testBit v = true → y.testBit v = true) : x ||| y = y := by
  apply Nat.eq_of_testBit_eq
  intro v
  rw [Nat.testBit_or]
  cases hx : x.testBit v
  · rfl
  · rw [h v hx]; rfl
theorem wt_mono : ∀ (l s : List Nat), l.length = s.length → Words l → Words s → (∀ i v, (l.getD i 0).testBit v = true → (s.getD i 0).testBit v = true) → wt l ≤ wt s ∧ (l ≠ s → wt l < wt s)
  | [], [], _, _, _, _ => ⟨Nat.le_refl _, fun h => absurd rfl h⟩
  | [], _ :: _, h, _, _, _ => by cases h
  | _ :: _, [], h, _, _, _ => by cases h
  | x :: l, y :: s, h, hl, hs, hb => by
    have ih := wt_mono l s (by simpa using h) (fun a ha => hl a (List.mem_cons_of_mem _ ha)) (fun a ha => hs a (List.mem_cons_of_mem _ ha)) (fun i v hv => by simpa using hb (i + 1) v (by simpa using hv))
    have hxy : x ||| y = y := or_sub (fun v hv => by simpa using hb 0 v (by simpa using hv))
    have hm := mem_more x y (hl x (by simp)) (hs y (by simp))
    rw [hxy] at hm
    rw [wt_cons, wt_cons]
    by_cases e : x = y
    · subst e
      exact ⟨by have := ih.1; omega, fun hne => by have := ih.2 (fun e2 => hne (by rw [e2])); omega⟩
    · have := hm (fun e2 => e e2.symm)
      have h1 := ih.1
      exact ⟨by omega, fun _ => by omega⟩
theorem sh_words {m : Nat} (hm : m ≤ 64) {l : List Nat} (h : Sh m l) : Words l := fun x hx => pow64 hm (h.2 x hx)
theorem wt_lt {m : Nat} (hm : m ≤ 64) {l s : List Nat} (hl : Sh m l) (hs : Sh m s) (hle : Le l s) (hne : l ≠ s) : wt l < wt s :=
  (wt_mono l s (hl.1.trans hs.1.symm) (sh_words hm hl) (sh_words hm hs) hle).2 hne
theorem wt_top {m : Nat} {l : List Nat} (hl : Sh m l) : wt l ≤ 64 * m := hl.1 ▸ wt_le l
/-- between r and every relation above it that has P -/
structure Mid (m : Nat) (P : List Nat → Prop) (r c : List Nat) : Prop where
  sh : Sh m c
  up : Le r c
  least : ∀ s, Sh m s → P s → Le r s → Le c s
section
variable {m : Nat} {P : List Nat → Prop} {st : List Nat → Nat → List Nat} {r c : List Nat}
theorem Mid.start (hr : Sh m r) : Mid m P r r := ⟨hr, Le.refl r, fun _ _ _ h => h⟩
theorem Mid.runs (h : Ws.Steps m P st) (hc : Mid m P r c) (k : Nat) (hk : k ≤ m) : Mid m P r (run st c k) :=
  ⟨(h.run_sh hc.sh k hk).1, hc.up.trans (h.run_sh hc.sh k hk).2, fun s hs hp hle => h.run_keep hc.sh hs hp (hc.least s hs hp hle) k hk⟩
theorem Mid.next (h : Ws.Steps m P st) (hc : Mid m P r c) : Mid m P r (run st c m) := hc.runs h m (Nat.le_refl _)
theorem Mid.done (h : Ws.Steps m P st) (hc : Mid m P r c) (hf : run st c m = c) : IsClo m P r c := IsClo.of_fixed h hc.sh hc.up hc.least hf
theorem Mid.more (h : Ws.Steps m P st) (hm : m ≤ 64) (hc : Mid m P r c) (hne : run st c m ≠ c) : wt c < wt (run st c m) ∧ wt (run st c m) ≤ 64 * m :=
  ⟨wt_lt hm hc.sh (hc.next h).sh (h.run_sh hc.sh m (Nat.le_refl _)).2 (fun e => hne e.symm), wt_top (hc.next h).sh⟩
end
end Go.Proofs.YtjpmhbnikoggaaaGreatDoor
/- Contracts of layer 2: the symmetric step of the closures, which ranges over the points of a row. -/
namespace Go.Proofs.YtjpmhbnikoggaaaGreatDoor
open Go.RowKit Go.Shelf Go.Proofs.Ws
attribute [local go_sem] Oper.semAt_some
theorem mixL_self (p : Nat → Bool) (f : Nat → Nat) (l : List Nat) (m : Nat) (hl : l.length = m) (h : ∀ v, p v = false) : mixL p f (fun v => l.getD v 0) m = l := by
  apply List.ext_getElem
  · simp [mixL, hl]
  · intro i h1 h2
    simp [mixL, h, List.getElem?_eq_getElem h2]
theorem or_again (a b : Nat) (c : Bool) : (if c then a ||| b else a) ||| b = a ||| b := by
  cases c
  · rfl
  · rw [if_pos rfl, Nat.or_assoc, Nat.or_self]
def euclL (l : List Nat) (k m : Nat) : List Nat := mixL (fun v => (l.getD k 0).testBit v) (fun v => l.getD v 0 ||| l.getD k 0) (fun v => l.getD v 0) m
def symL (l : List Nat) (k m : Nat) : List Nat := mixL (fun v => (l.getD k 0).testBit v) (fun v => l.getD v 0 ||| p2 k) (fun v => l.getD v 0) m
set_option maxRecDepth 100000 in
set_option maxHeartbeats 4000000 in
theorem stepSymmetric_any (l : List Nat) (g m c k : Nat) (w : World) (hH : HoldsP w g l) (hw : Words l) (hrows : ∀ x ∈ l, x < 2 ^ m) (hl : l.length = m) (hk : k < m) (hm : m ≤ 64) (hT : Tab w) (hg : 0 < g) :
    Calls Tryz.prog 134 #[.slice (some ⟨g, 0, none⟩) m c, .int .i64 k] w fun e w' => e = .returned (.tuple #[]) ∧ HoldsP w' g (symL l k m) ∧ BelowBut w.heap.size g w w' := by
  have hcz := hH.cell k (by omega)
  obtain ⟨x, hx⟩ : ∃ x, l.getD k 0 = x := ⟨_, rfl⟩
  rw [hx] at hcz
  have hxw : x < 18446744073709551616 := by rw [← hx]; exact words_getD hw k
  have HJ : Hid (∀ j ∈ mem x, j < m) := Lib.hid (fun j hj => by
    have h1 := (mem_iff _ _).1 hj
    apply Classical.byContradiction
    intro hn
    have hxm : x < 2 ^ m := by
      rw [← hx, List.getD_eq_getElem?_getD, List.getElem?_eq_getElem (by omega)]
      exact hrows _ (List.getElem_mem _)
    have : x < 2 ^ j := Nat.lt_of_lt_of_le hxm (Nat.pow_le_pow_right (by decide) (by omega))
    rw [Nat.testBit_lt_two_pow this] at h1
    exact absurd h1.2 (by simp))
  have HX := Lib.hid hx
  have HW := Lib.hid hw
  have HL := Lib.hid hl
  have hgl := hH.lt
  have b0 := cell_new_l w (.slice (some ⟨g, 0, none⟩) m c) 22
  have b1 := cell_new_l (w.alloc (.cells #[.slice (some ⟨g, 0, none⟩) m c] 22)) (.int .i64 (k : Int)) 3
  have b2 := cell_new_l ((w.alloc (.cells #[.slice (some ⟨g, 0, none⟩) m c] 22)).alloc (.cells #[.int .i64 (k : Int)] 3)) (.int .u64 (x : Int)) 37
  simp only [World.size_alloc] at b1 b2
  have hB0 : Below w.heap.size w (((w.alloc (.cells #[.slice (some ⟨g, 0, none⟩) m c] 22)).alloc (.cells #[.int .i64 (k : Int)] 3)).alloc (.cells #[.int .u64 (x : Int)] 37)) := (((Below.refl _ w).alloc (Nat.le_refl _) _).alloc (by simp) _).alloc (by simp; omega) _
  have hsz : (((w.alloc (.cells #[.slice (some ⟨g, 0, none⟩) m c] 22)).alloc (.cells #[.int .i64 (k : Int)] 3)).alloc (.cells #[.int .u64 (x : Int)] 37)).heap.size = w.heap.size + 3 := by simp
  have c0 := cell_alloc_l (.cells #[.int .u64 (x : Int)] 37) (cell_alloc_l (.cells #[.int .i64 (k : Int)] 3) b0.1)
  have c1 := cell_alloc_l (.cells #[.int .u64 (x : Int)] 37) b1.1
  have c2 := b2.1
  have hh0 := hH.below hB0 hgl
  have ht0 := hT.below hB0
  have HB0 := Lib.hid hB0
  have HH0 := Lib.hid hh0
  have HT0 := Lib.hid ht0
  have HC0 := Lib.hid c0
  have HC1 := Lib.hid c1
  have HC2 := Lib.hid c2
  have HSZ := Lib.hid hsz
  clear hH hw hl hx hrows hT b0 b1 b2 hB0 hsz c0 c1 c2 hh0 ht0
  refine (callsIn_wide (n := 6)).1 ?_
  refine callsIn_of_wp_marks Tryz.func134 rfl trivial ?_ rfl
  simp only [Tryz.ntmps134, List.size_toArray, List.length_cons, List.length_nil, Nat.reduceAdd, Nat.reduceSub, Array.replicate_succ, Array.replicate_zero, List.push_toArray, List.append_toArray, List.nil_append, List.cons_append]
  gi_wp2_with (first | (refine ⟨trivial, ?_⟩; gi_at_call 175; refine (callsIn_wide.2 (points_any x _)).mono ?_; rintro e w' ⟨rfl, rfl⟩))
  have hB0 := HB0.out
  have hh0 := HH0.out
  have ht0 := HT0.out
  have c0 := HC0.out
  have c1 := HC1.out
  have c2 := HC2.out
  have hsz := HSZ.out
  clear HB0 HH0 HT0 HC0 HC1 HC2 HSZ
  generalize (((w.alloc (.cells #[.slice (some ⟨g, 0, none⟩) m c] 22)).alloc (.cells #[.int .i64 (k : Int)] 3)).alloc (.cells #[.int .u64 (x : Int)] 37)) = W0 at *
  have HBB : ∀ {W W' : World} {row : Option Nat}, BelowBut w.heap.size g w W → W.grownBy W' row → (∀ r, row = some r → W0.heap.size ≤ r) → BelowBut w.heap.size g w W' := fun h hg hr =>
    h.trans (BelowBut.of ((Below.refl w.heap.size _).grown hg h.size (fun r e => by have := hr r e; omega)) g)
  refine wpIn_rangeFunc_ownF rfl (by omega) (gf := 198) (lb := #[.pointer (some ⟨w.heap.size + 1 + 1, 0, none⟩)]) rfl trivial (enters_of Tryz.func198 (by kernel_rfl) rfl)
    (points_stops 5 (by omega) (w.heap.size + 1 + 1) g x W0 hxw (by omega) hg c2 ht0) belowK_t (belowK_b (by omega)) (Below.refl _ _) (fun _ => rfl)
    (fun pre W => W.cell? ⟨w.heap.size, 0, none⟩ = some (.slice (some ⟨g, 0, none⟩) m c) ∧ W.cell? ⟨w.heap.size + 1, 0, none⟩ = some (.int .i64 (k : Int)) ∧
      HoldsP W g (mixL (fun j => decide (j ∈ vals pre)) (fun v => l.getD v 0 ||| p2 k) (fun v => l.getD v 0) m) ∧ BelowBut w.heap.size g w W)
    (fun _ _ _ => False)
    (fun s A B row hs hg hr => ⟨cell_kept hs.1 hg (fun r e => (hr r e).2), cell_kept hs.2.1 hg (fun r e => (hr r e).2), hs.2.2.1.kept hg (fun r e => (hr r e).2), HBB hs.2.2.2 hg (fun r e => (hr r e).1)⟩)
    (fun _ _ _ _ _ hs _ _ => hs)
    ⟨c0, c1, by rw [mixL_self _ _ l m HL.out (fun v => by simp [vals_nil])]; exact hh0, BelowBut.of hB0 g⟩
    (fun j => { tmps := #[.slice (some ⟨g, 0, none⟩) m c, .int .i64 k, .pointer (some ⟨w.heap.size, 0, none⟩), .pointer (some ⟨w.heap.size + 1, 0, none⟩), .int .i64 (j.1 : Int), .slice (some ⟨g, 0, none⟩) m c, .int .i64 k, .pointer (some ⟨g, k, none⟩), .int .u64 (x : Int), .func (.func 198) #[] #[.pointer (some ⟨w.heap.size + 1 + 1, 0, none⟩)], .int .i64 (j.1 : Int), undef, undef, undef, undef, undef, undef, undef, undef], defers := [] }) ?assign ?body ?done ?stop
  case assign =>
    intro l j W K hK
    gi_wp2
    exact hK
  case body =>
    rintro lb pre j W ⟨hc1, hc2, hh, hB⟩ _
    have hjm := HJ.out j.1 j.2
    have hmx : Tryz.prog.follows .mixedOrders = true := by kernel_rfl
    obtain ⟨v0, hv0⟩ : ∃ v0, v0 = (mixL (fun i => decide (i ∈ vals pre)) (fun v => l.getD v 0 ||| p2 k) (fun v => l.getD v 0) m).getD j.1 0 := ⟨_, rfl⟩
    have hcz := hh.cell j.1 (by rw [mixL_length]; exact hjm)
    rw [← hv0] at hcz
    have hfz := hh.free j.1
    obtain ⟨v1, hv1e⟩ : ∃ v1, v1 = l.getD j.1 0 ||| p2 k := ⟨_, rfl⟩
    have hv1 : v0 ||| p2 k = v1 := by rw [hv0, mixL_getD _ _ _ _ _ hjm, hv1e]; exact or_again _ _ _
    have hvl : v0 < 18446744073709551616 := by
      rw [hv0, mixL_getD _ _ _ _ _ hjm]
      split
      · exact (or_pow _ k (words_getD HW.out _) (by omega)).2
      · exact words_getD HW.out _
    have hor : bits .or .u64 (v0 : Int) (p2 k : Int) = (v1 : Int) := by rw [(or_pow v0 k hvl (by omega)).1, hv1]
    have HP := Lib.hid (hh.put j.1 v1)
    rw [mixL_set (fun i => decide (i ∈ vals pre)) (fun i => decide (i ∈ vals (pre ++ [j]))) _ _ m j.1 _ (by rw [if_pos (by simp [vals_snoc])]; exact hv1e.symm) (fun i hi => by simp [vals_snoc, hi])] at HP
    have HB := Lib.hid hB
    clear hv0 hv1 hvl hh hB hv1e
    gi_wp2
    gi_region_with_o (refine ⟨trivial, ?_⟩; gi_at_call 174; refine (CallsIn.inRound lb (callsIn_wide.2 (relOnly_any k _ (by omega)))).mono ?_; rintro e w' ⟨rfl, rfl⟩)
    all_goals gi_wp2
    all_goals (try go_bits)
    all_goals exact ⟨(KeepsOthers.setCell _ _ _).trans (KeepsOthers.drew _), ((Below.refl g W).setCell (p := ⟨g, j.1, none⟩) (Nat.le_refl _) _).drew, (World.cell?_setCell_other W ⟨g, j.1, none⟩ ⟨w.heap.size, 0, none⟩ _ (by intro e; injection e with e1 e2; omega)).trans hc1, (World.cell?_setCell_other W ⟨g, j.1, none⟩ ⟨w.heap.size + 1, 0, none⟩ _ (by intro e; injection e with e1 e2; omega)).trans hc2, HP.out, (HB.out.setCell j.1 _).drew⟩
  case done =>
    rintro D ys W hD hys ⟨_, _, hh, hB⟩ hK
    have HH : Hid (HoldsP W g (symL l k m)) := Lib.hid (by
      unfold symL
      rw [mixL_congr (p' := fun j => decide (j ∈ vals ys)) (f' := fun v => l.getD v 0 ||| p2 k) (g' := fun v => l.getD v 0) (fun v hv => by
        rw [hys, HX.out]
        have e : decide (v ∈ mem x) = x.testBit v := by
          rw [Bool.eq_iff_iff, decide_eq_true_eq, mem_iff]
          exact ⟨fun h => h.2, fun h => ⟨by omega, h⟩⟩
        rw [e])]
      exact hh)
    gi_wp2
    refine leaves_marks w.heap.size [D] _ ⟨by simp, fun D' hD' => by rw [List.mem_singleton.1 hD']; exact ⟨by omega, hK⟩⟩ (fun w' hb' hk' => ?_)
    exact ⟨_, results_none rfl _ _ _, rfl, HH.out.via hk', hB.trans (BelowBut.of hb' g)⟩
  case stop =>
    rintro D c pre W _ _ h _
    exact h.elim
end Go.Proofs.YtjpmhbnikoggaaaGreatDoor
/- The four steps of the program and the two of the reference are steps of closures; the reference's reflexive and symmetric closures are the least ones. -/
namespace Go.Proofs.YtjpmhbnikoggaaaGreatDoor
open Go.RowKit Go.Proofs.Ws
theorem sh_getD {m : Nat} {l : List Nat} (h : Sh m l) (k : Nat) : l.getD k 0 < 2 ^ m := by
  rw [List.getD_eq_getElem?_getD]
  by_cases hk : k < l.length
  · rw [List.getElem?_eq_getElem hk]; exact h.2 _ (List.getElem_mem hk)
  · rw [List.getElem?_eq_none (by omega)]; exact Nat.two_pow_pos m
theorem foldOr_bit (R : List Nat) (b : Nat) : ∀ (ks : List Nat) (a : Nat), (ks.foldl (fun a k => a ||| R.getD k 0) a).testBit b = true ↔ a.testBit b = true ∨ ∃ u, u ∈ ks ∧ bit R u b = true
  | [], a => by simp
  | k :: ks, a => by
    rw [List.foldl_cons, foldOr_bit R b ks, Nat.testBit_or, Bool.or_eq_true]
    unfold bit
    constructor
    · rintro ((h | h) | ⟨u, hu, h⟩)
      · exact .inl h
      · exact .inr ⟨k, by simp, h⟩
      · exact .inr ⟨u, by simp [hu], h⟩
    · rintro (h | ⟨u, hu, h⟩)
      · exact .inl (.inl h)
      · rcases List.mem_cons.1 hu with rfl | hu
        · exact .inl (.inr h)
        · exact .inr ⟨u, hu, h⟩
theorem bit_len {R : List Nat} {u b : Nat} (h : bit R u b = true) : u < R.length := by
  apply Classical.byContradiction
  intro hn
  unfold bit at h
  rw [List.getD_eq_getElem?_getD, List.getElem?_eq_none (by omega)] at h
  simp at h
theorem imgV_bit (R : List Nat) (x b : Nat) (h : R.length ≤ 64) : (imgV R x).testBit b = true ↔ ∃ u, x.testBit u = true ∧ bit R u b = true := by
  unfold imgV imgL
  rw [foldOr_bit, mem_below x _ h]
  simp only [Nat.zero_testBit, Bool.false_eq_true, false_or, List.mem_filter, List.mem_range]
  exact ⟨fun ⟨u, ⟨_, h1⟩, h2⟩ => ⟨u, h1, h2⟩, fun ⟨u, h1, h2⟩ => ⟨u, ⟨bit_len h2, h1⟩, h2⟩⟩
def reflL (l : List Nat) (k : Nat) : List Nat := l.set k (l.getD k 0 ||| p2 k)
def transL (l : List Nat) (k : Nat) : List Nat := l.set k (l.getD k 0 ||| imgV l (l.getD k 0))
theorem p2_in {w m : Nat} (h : w < m) : p2 w < 2 ^ m := Nat.pow_lt_pow_right (by decide) h
theorem bit_mixL (p : Nat → Bool) (f g : Nat → Nat) (m a b : Nat) (h : a < m) : bit (mixL p f g m) a b = (if p a then f a else g a).testBit b := by
  unfold bit; rw [mixL_getD _ _ _ _ _ h]
theorem mixL_sh {m : Nat} (p : Nat → Bool) (f g : Nat → Nat) (hf : ∀ v, v < m → f v < 2 ^ m) (hg : ∀ v, v < m → g v < 2 ^ m) : Sh m (mixL p f g m) :=
  ⟨mixL_length _ _ _ _, fun x hx => by
    unfold mixL at hx
    obtain ⟨v, hv, rfl⟩ := List.mem_map.1 hx
    have hv := List.mem_range.1 hv
    split
    · exact hf v hv
    · exact hg v hv⟩
theorem reflL_bit {m : Nat} (l : List Nat) (w a b : Nat) (hl : Sh m l) (hw : w < m) : bit (reflL l w) a b = true ↔ bit l a b = true ∨ (a = w ∧ b = w) := by
  unfold reflL
  rw [bit_set l w _ a b (by rw [hl.1]; exact hw)]
  split
  · rename_i e
    subst e
    rw [Nat.testBit_or, p2_bit, Bool.or_eq_true, decide_eq_true_eq]
    unfold bit
    exact or_congr Iff.rfl ⟨fun h => ⟨rfl, h.symm⟩, fun h => h.2.symm⟩
  · rename_i e
    exact ⟨.inl, fun h => h.elim id (fun h => absurd h.1 e)⟩
theorem reflL_steps (m : Nat) : Ws.Steps m (PRefl m) reflL :=
  steps_refl (fun _l w hl hw => hl.set w _ (Nat.or_lt_two_pow (sh_getD hl w) (p2_in hw))) (fun l w a b hl hw => reflL_bit l w a b hl hw)
theorem transL_steps (m : Nat) (hm : m ≤ 64) : Ws.Steps m PTrans transL :=
  steps_trans (fun l w hl hw => hl.set w _ (Nat.or_lt_two_pow (sh_getD hl w) (imgV_in hl.2 _))) (fun l w a b hl hw => by
    unfold transL
    rw [bit_set l w _ a b (by rw [hl.1]; exact hw)]
    split
    · rename_i e
      subst e
      rw [Nat.testBit_or, Bool.or_eq_true, imgV_bit _ _ _ (by rw [hl.1]; exact hm)]
      unfold bit
      exact or_congr Iff.rfl ⟨fun h => ⟨rfl, h⟩, fun h => h.2⟩
    · rename_i e
      exact ⟨.inl, fun h => h.elim id (fun h => absurd h.1 e)⟩)
theorem symL_steps (m : Nat) : Ws.Steps m PSym (fun l k => symL l k m) :=
  steps_sym (fun l w hl hw => mixL_sh _ _ _ (fun v _ => Nat.or_lt_two_pow (sh_getD hl v) (p2_in hw)) (fun v _ => sh_getD hl v)) (fun l w a b hl hw => by
    show bit (symL l w m) a b = true ↔ _
    by_cases ha : a < m
    · unfold symL
      rw [bit_mixL _ _ _ _ _ _ ha]
      unfold bit
      split
      · rename_i h
        rw [Nat.testBit_or, p2_bit, Bool.or_eq_true, decide_eq_true_eq]
        exact or_congr Iff.rfl ⟨fun e => ⟨e.symm, h⟩, fun e => e.1.symm⟩
      · rename_i h
        exact ⟨.inl, fun e => e.elim id (fun e => absurd e.2 h)⟩
    · constructor
      · intro h
        have := bit_len h
        unfold symL at this
        rw [mixL_length] at this
        exact absurd this ha
      · rintro (h | ⟨_, h⟩)
        · exact absurd (bit_in hl h).1 ha
        · exact absurd (bit_in hl h).2 ha)
theorem euclL_steps (m : Nat) : Ws.Steps m PEucl (fun l k => euclL l k m) :=
  steps_eucl (fun l w hl hw => mixL_sh _ _ _ (fun v _ => Nat.or_lt_two_pow (sh_getD hl v) (sh_getD hl w)) (fun v _ => sh_getD hl v)) (fun l w a b hl hw => by
    show bit (euclL l w m) a b = true ↔ _
    by_cases ha : a < m
    · unfold euclL
      rw [bit_mixL _ _ _ _ _ _ ha]
      unfold bit
      split
      · rename_i h
        rw [Nat.testBit_or, Bool.or_eq_true]
        exact or_congr Iff.rfl ⟨fun e => ⟨h, e⟩, fun e => e.2⟩
      · rename_i h
        exact ⟨.inl, fun e => e.elim id (fun e => absurd e.1 h)⟩
    · constructor
      · intro h
        have := bit_len h
        unfold euclL at this
        rw [mixL_length] at this
        exact absurd this ha
      · rintro (h | ⟨h, _⟩)
        · exact absurd (bit_in hl h).1 ha
        · exact absurd (bit_in hl h).2 ha)
end Go.Proofs.YtjpmhbnikoggaaaGreatDoor
/- Mathematics of paths: the points from which so many steps lead to a set, the walk down, the first hit. -/
namespace Go.Proofs.YtjpmhbnikoggaaaGreatDoor
open Go.RowKit Go.Proofs.Ws
/-- the points with a successor in a set -/
def dia (R : List Nat) (s : Nat) : Nat := whV (pDia s) R
theorem whU_bit (p : Nat → Bool) (R : List Nat) (w : Nat) : ∀ n, (whU p R n).testBit w = true ↔ w < n ∧ p (R.getD w 0) = true
  | 0 => by simp [whU]
  | n + 1 => by
    rw [whU_succ]
    split
    · rename_i h
      rw [Nat.testBit_or, Bool.or_eq_true, whU_bit p R w n, p2_bit, decide_eq_true_eq]
      constructor
      · rintro (⟨h1, h2⟩ | rfl)
        · exact ⟨by omega, h2⟩
        · exact ⟨by omega, h⟩
      · rintro ⟨h1, h2⟩
        by_cases e : n = w
        · exact .inr e
        · exact .inl ⟨by omega, h2⟩
    · rename_i h
      rw [whU_bit p R w n]
      constructor
      · rintro ⟨h1, h2⟩; exact ⟨by omega, h2⟩
      · rintro ⟨h1, h2⟩
        by_cases e : w = n
        · subst e; exact absurd h2 h
        · exact ⟨by omega, h2⟩
theorem dia_bit {R : List Nat} {n : Nat} (h0 : relErr n R = 0) (hl : R.length = n) (s w : Nat) : (dia R s).testBit w = true ↔ w < n ∧ R.getD w 0 &&& s ≠ 0 := by
  unfold dia whV
  rw [hl, if_pos h0, whU_bit]
  unfold pDia
  rw [decide_eq_true_eq]
/-- the points from which so many steps lead to a set -/
def lvl (R : List Nat) (s : Nat) : Nat → Nat
  | 0 => s
  | k + 1 => dia R (lvl R s k)
/-- the walk down from a level: the lowest point that can still arrive -/
def down (R : List Nat) (f : Nat → Nat) : Nat → Nat → List Nat
  | 0, _ => []
  | c + 1, x => low (x &&& f c) :: down R f c (R.getD (low (x &&& f c)) 0)
/-- a state of the walk: c levels are left, x is what the next point is taken from -/
structure OnWay (R : List Nat) (n : Nat) (s K c x : Nat) : Prop where
  le : c ≤ K + 2
  lt : x < 18446744073709551616
  hit : 0 < c → x &&& lvl R s (c - 1) ≠ 0
  row : c ≤ K + 1 → x < 2 ^ n
theorem OnWay.start {R : List Nat} {n s K x : Nat} (hx : x < 18446744073709551616) (h : x &&& lvl R s (K + 1) ≠ 0) : OnWay R n s K (K + 2) x :=
  ⟨Nat.le_refl _, hx, fun _ => h, fun h => absurd h (by omega)⟩
theorem low_in {y : Nat} (h0 : y ≠ 0) (h : y < 18446744073709551616) : y.testBit (low y) = true ∧ low y < 64 := by
  refine ⟨testBit_low y h0 h, ?_⟩
  obtain ⟨_, _, h2⟩ := low_form y h0 h
  exact h2
section
variable {R : List Nat} {n s K c x : Nat}
theorem OnWay.point (h0 : relErr n R = 0) (hl : R.length = n) (h : OnWay R n s K (c + 1) x) : low (x &&& lvl R s c) < n ∧ x.testBit (low (x &&& lvl R s c)) = true ∧ (lvl R s c).testBit (low (x &&& lvl R s c)) = true := by
  have hne := h.hit (by omega)
  rw [Nat.add_sub_cancel] at hne
  have hb := low_in hne (Nat.lt_of_le_of_lt Nat.and_le_left h.lt)
  rw [Nat.testBit_and, Bool.and_eq_true] at hb
  refine ⟨?_, hb.1.1, hb.1.2⟩
  cases c with
  | succ c =>
    have : (dia R (lvl R s c)).testBit (low (x &&& lvl R s (c + 1))) = true := hb.1.2
    exact ((dia_bit h0 hl _ _).1 this).1
  | zero =>
    have hx := h.row (by omega)
    apply Classical.byContradiction
    intro hn
    have h1 := hb.1.1
    rw [Nat.testBit_lt_two_pow (Nat.lt_of_lt_of_le hx (Nat.pow_le_pow_right (by decide) (by omega)))] at h1
    cases h1
theorem OnWay.next (h0 : relErr n R = 0) (hl : R.length = n) (h : OnWay R n s K (c + 1) x) : OnWay R n s K c (R.getD (low (x &&& lvl R s c)) 0) where
  le := by have := h.le; omega
  lt := pow64 (relErr_zero h0) (sh_getD ⟨hl, relErr_rows h0⟩ _)
  hit := fun hc => by
    obtain ⟨c, rfl⟩ : ∃ c', c = c' + 1 := ⟨c - 1, by omega⟩
    exact ((dia_bit h0 hl _ _).1 (h.point h0 hl).2.2).2
  row := fun _ => sh_getD ⟨hl, relErr_rows h0⟩ _
theorem OnWay.small (h0 : relErr n R = 0) (hl : R.length = n) (h : OnWay R n s K (c + 1) x) : low (x &&& lvl R s c) < 64 := by
  have := (h.point h0 hl).1
  have := relErr_zero h0
  omega
end
/-- the path, by its definition -/
def PathIs (R : List Nat) (n frm s : Nat) (p : List Nat) : Prop :=
  (relErr n R ≠ 0 ∧ p = []) ∨ (relErr n R = 0 ∧ (∀ j, j < n → frm &&& lvl R s (j + 1) = 0) ∧ p = []) ∨
  (relErr n R = 0 ∧ ∃ K, K < n ∧ (∀ j, j < K → frm &&& lvl R s (j + 1) = 0) ∧ frm &&& lvl R s (K + 1) ≠ 0 ∧ p = down R (lvl R s) (K + 2) frm)
theorem PathIs.unique {R : List Nat} {n frm s : Nat} {p q : List Nat} (h : PathIs R n frm s p) (k : PathIs R n frm s q) : p = q := by
  rcases h with ⟨h0, rfl⟩ | ⟨h0, h1, rfl⟩ | ⟨h0, K, hK, h1, h2, rfl⟩
  · rcases k with ⟨_, rfl⟩ | ⟨k0, _⟩ | ⟨k0, _⟩
    · rfl
    · exact absurd k0 h0
    · exact absurd k0 h0
  · rcases k with ⟨_, rfl⟩ | ⟨_, _, rfl⟩ | ⟨_, K, hK, _, k2, _⟩
    · rfl
    · rfl
    · exact absurd (h1 K hK) k2
  · rcases k with ⟨k0, _⟩ | ⟨_, k1, _⟩ | ⟨_, K', hK', k1, k2, rfl⟩
    · exact absurd h0 k0
    · exact absurd (k1 K hK) h2
    · have : K = K' := by
        rcases Nat.lt_trichotomy K K' with h | h | h
        · exact absurd (k1 K h) h2
        · exact h
        · exact absurd (h1 K' h) k2
      rw [this]
end Go.Proofs.YtjpmhbnikoggaaaGreatDoor
/- Mathematics for the laws of layer 2: duality of box and diamond, composition, paths and what is reached. -/
namespace Go.Proofs.YtjpmhbnikoggaaaGreatDoor
open Go.RowKit Go.Proofs.Ws
def box (R : List Nat) (s : Nat) : Nat := whV (pBox s) R
section
variable {R : List Nat} {n : Nat} (h0 : relErr n R = 0) (hl : R.length = n)
include h0 hl
theorem rel_sh : Sh n R := ⟨hl, relErr_rows h0⟩
end
section
variable {R S T : List Nat} {n : Nat} (hn : n ≤ 64) (hR : Sh n R) (hS : Sh n S)
include hn hR hS
end
end Go.Proofs.YtjpmhbnikoggaaaGreatDoor
