/- Contracts of layer 2: the euclidean step of the closures. -/
import Derived.Test.YtjpmhbnikoggaaaGreatDoorNIc
namespace Go.Proofs.YtjpmhbnikoggaaaGreatDoor
open Go.RowKit Go.Shelf Go.Proofs.Ws
attribute [local go_sem] Oper.semAt_some
set_option maxRecDepth 100000 in
set_option maxHeartbeats 4000000 in
theorem stepEuclidean_any (l : List Nat) (g m c k : Nat) (w : World) (hH : HoldsP w g l) (hw : Words l) (hrows : ∀ x ∈ l, x < 2 ^ m) (hl : l.length = m) (hk : k < m) (hm : m ≤ 64) (hT : Tab w) (hg : 0 < g) :
    Calls Tryz.prog 136 #[.slice (some ⟨g, 0, none⟩) m c, .int .i64 k] w fun e w' => e = .returned (.tuple #[]) ∧ HoldsP w' g (euclL l k m) ∧ BelowBut w.heap.size g w w' := by
  have hcz := hH.cell k (by omega)
  obtain ⟨x, hx⟩ : ∃ x, l.getD k 0 = x := ⟨_, rfl⟩
  rw [hx] at hcz
  have hxw : x < 18446744073709551616 := by rw [← hx]; exact words_getD hw k
  have HJ : Hid (∀ j ∈ mem x, j < m) := Lib.hid (fun j hj => by
    have h1 := (mem_iff _ _).1 hj
    apply Classical.byContradiction
    intro hn
    have hxm : x < 2 ^ m := by
      rw [← hx, List.getD_eq_getElem?_getD, List.getElem?_eq_getElem (by omega)]
      exact hrows _ (List.getElem_mem _)
    have : x < 2 ^ j := Nat.lt_of_lt_of_le hxm (Nat.pow_le_pow_right (by decide) (by omega))
    rw [Nat.testBit_lt_two_pow this] at h1
    exact absurd h1.2 (by simp))
  have HX := Lib.hid hx
  have HW := Lib.hid hw
  have HL := Lib.hid hl
  have hgl := hH.lt
  have b0 := cell_new_l w (.slice (some ⟨g, 0, none⟩) m c) 22
  have b1 := cell_new_l (w.alloc (.cells #[.slice (some ⟨g, 0, none⟩) m c] 22)) (.int .i64 (k : Int)) 3
  have b2 := cell_new_l ((w.alloc (.cells #[.slice (some ⟨g, 0, none⟩) m c] 22)).alloc (.cells #[.int .i64 (k : Int)] 3)) (.int .u64 (x : Int)) 37
  simp only [World.size_alloc] at b1 b2
  have hB0 : Below w.heap.size w (((w.alloc (.cells #[.slice (some ⟨g, 0, none⟩) m c] 22)).alloc (.cells #[.int .i64 (k : Int)] 3)).alloc (.cells #[.int .u64 (x : Int)] 37)) := (((Below.refl _ w).alloc (Nat.le_refl _) _).alloc (by simp) _).alloc (by simp; omega) _
  have hsz : (((w.alloc (.cells #[.slice (some ⟨g, 0, none⟩) m c] 22)).alloc (.cells #[.int .i64 (k : Int)] 3)).alloc (.cells #[.int .u64 (x : Int)] 37)).heap.size = w.heap.size + 3 := by simp
  have c0 := cell_alloc_l (.cells #[.int .u64 (x : Int)] 37) (cell_alloc_l (.cells #[.int .i64 (k : Int)] 3) b0.1)
  have c1 := cell_alloc_l (.cells #[.int .u64 (x : Int)] 37) b1.1
  have c2 := b2.1
  have hh0 := hH.below hB0 hgl
  have ht0 := hT.below hB0
  have HB0 := Lib.hid hB0
  have HH0 := Lib.hid hh0
  have HT0 := Lib.hid ht0
  have HC0 := Lib.hid c0
  have HC1 := Lib.hid c1
  have HC2 := Lib.hid c2
  have HSZ := Lib.hid hsz
  clear hH hw hl hx hrows hT b0 b1 b2 hB0 hsz c0 c1 c2 hh0 ht0
  refine (callsIn_wide (n := 6)).1 ?_
  refine callsIn_of_wp_marks Tryz.func136 rfl trivial ?_ rfl
  simp only [Tryz.ntmps136, List.size_toArray, List.length_cons, List.length_nil, Nat.reduceAdd, Nat.reduceSub, Array.replicate_succ, Array.replicate_zero, List.push_toArray, List.append_toArray, List.nil_append, List.cons_append]
  gi_wp2_with (first | (refine ⟨trivial, ?_⟩; gi_at_call 175; refine (callsIn_wide.2 (points_any x _)).mono ?_; rintro e w' ⟨rfl, rfl⟩))
  have hB0 := HB0.out
  have hh0 := HH0.out
  have ht0 := HT0.out
  have c0 := HC0.out
  have c1 := HC1.out
  have c2 := HC2.out
  have hsz := HSZ.out
  clear HB0 HH0 HT0 HC0 HC1 HC2 HSZ
  generalize (((w.alloc (.cells #[.slice (some ⟨g, 0, none⟩) m c] 22)).alloc (.cells #[.int .i64 (k : Int)] 3)).alloc (.cells #[.int .u64 (x : Int)] 37)) = W0 at *
  have HBB : ∀ {W W' : World} {row : Option Nat}, BelowBut w.heap.size g w W → W.grownBy W' row → (∀ r, row = some r → W0.heap.size ≤ r) → BelowBut w.heap.size g w W' := fun h hg hr =>
    h.trans (BelowBut.of ((Below.refl w.heap.size _).grown hg h.size (fun r e => by have := hr r e; omega)) g)
  refine wpIn_rangeFunc_ownF rfl (by omega) (gf := 198) (lb := #[.pointer (some ⟨w.heap.size + 1 + 1, 0, none⟩)]) rfl trivial (enters_of Tryz.func198 (by kernel_rfl) rfl)
    (points_stops 5 (by omega) (w.heap.size + 1 + 1) g x W0 hxw (by omega) hg c2 ht0) belowK_t (belowK_b (by omega)) (Below.refl _ _) (fun _ => rfl)
    (fun pre W => W.cell? ⟨w.heap.size, 0, none⟩ = some (.slice (some ⟨g, 0, none⟩) m c) ∧ W.cell? ⟨w.heap.size + 1, 0, none⟩ = some (.int .i64 (k : Int)) ∧
      HoldsP W g (mixL (fun j => decide (j ∈ vals pre)) (fun v => l.getD v 0 ||| x) (fun v => l.getD v 0) m) ∧ BelowBut w.heap.size g w W)
    (fun _ _ _ => False)
    (fun s A B row hs hg hr => ⟨cell_kept hs.1 hg (fun r e => (hr r e).2), cell_kept hs.2.1 hg (fun r e => (hr r e).2), hs.2.2.1.kept hg (fun r e => (hr r e).2), HBB hs.2.2.2 hg (fun r e => (hr r e).1)⟩)
    (fun _ _ _ _ _ hs _ _ => hs)
    ⟨c0, c1, by rw [mixL_self _ _ l m HL.out (fun v => by simp [vals_nil])]; exact hh0, BelowBut.of hB0 g⟩
    (fun j => { tmps := #[.slice (some ⟨g, 0, none⟩) m c, .int .i64 k, .pointer (some ⟨w.heap.size, 0, none⟩), .pointer (some ⟨w.heap.size + 1, 0, none⟩), .int .i64 (j.1 : Int), .slice (some ⟨g, 0, none⟩) m c, .int .i64 k, .pointer (some ⟨g, k, none⟩), .int .u64 (x : Int), .func (.func 198) #[] #[.pointer (some ⟨w.heap.size + 1 + 1, 0, none⟩)], .int .i64 (j.1 : Int), undef, undef, undef, undef, undef, undef, undef, undef, undef, undef], defers := [] }) ?assign ?body ?done ?stop
  case assign =>
    intro l j W K hK
    gi_wp2
    exact hK
  case body =>
    rintro lb pre j W ⟨hc1, hc2, hh, hB⟩ _
    have hjm := HJ.out j.1 j.2
    have hmx : Tryz.prog.follows .mixedOrders = true := by kernel_rfl
    obtain ⟨v0, hv0⟩ : ∃ v0, v0 = (mixL (fun i => decide (i ∈ vals pre)) (fun v => l.getD v 0 ||| x) (fun v => l.getD v 0) m).getD j.1 0 := ⟨_, rfl⟩
    have hcz := hh.cell j.1 (by rw [mixL_length]; exact hjm)
    rw [← hv0] at hcz
    have hfz := hh.free j.1
    obtain ⟨v1, hv1e⟩ : ∃ v1, v1 = l.getD j.1 0 ||| x := ⟨_, rfl⟩
    have hv1 : v0 ||| x = v1 := by rw [hv0, mixL_getD _ _ _ _ _ hjm, hv1e]; exact or_again _ _ _
    have hvl : v0 < 18446744073709551616 := by
      rw [hv0, mixL_getD _ _ _ _ _ hjm]
      split
      · exact Nat.or_lt_two_pow (n := 64) (words_getD HW.out _) hxw
      · exact words_getD HW.out _
    have hor : bits .or .u64 (v0 : Int) (x : Int) = (v1 : Int) := by rw [u64_or_nat v0 x hvl hxw, hv1]
    have hcw := hh.cell k (by rw [mixL_length]; exact hk)
    rw [mixL_getD _ _ _ _ _ hk, show (if decide (k ∈ vals pre) then l.getD k 0 ||| x else l.getD k 0) = x from by rw [HX.out]; split <;> simp] at hcw
    have HP := Lib.hid (hh.put j.1 v1)
    rw [mixL_set (fun i => decide (i ∈ vals pre)) (fun i => decide (i ∈ vals (pre ++ [j]))) _ _ m j.1 _ (by rw [if_pos (by simp [vals_snoc])]; exact hv1e.symm) (fun i hi => by simp [vals_snoc, hi])] at HP
    have HB := Lib.hid hB
    clear hv0 hv1 hvl hh hB hv1e
    gi_wp2
    gi_region_with_o (fail)
    all_goals gi_wp2
    all_goals (try go_bits)
    all_goals exact ⟨(KeepsOthers.setCell _ _ _).trans (KeepsOthers.drew _), ((Below.refl g W).setCell (p := ⟨g, j.1, none⟩) (Nat.le_refl _) _).drew, (World.cell?_setCell_other W ⟨g, j.1, none⟩ ⟨w.heap.size, 0, none⟩ _ (by intro e; injection e with e1 e2; omega)).trans hc1, (World.cell?_setCell_other W ⟨g, j.1, none⟩ ⟨w.heap.size + 1, 0, none⟩ _ (by intro e; injection e with e1 e2; omega)).trans hc2, HP.out, (HB.out.setCell j.1 _).drew⟩
  case done =>
    rintro D ys W hD hys ⟨_, _, hh, hB⟩ hK
    have HH : Hid (HoldsP W g (euclL l k m)) := Lib.hid (by
      unfold euclL
      rw [HX.out]
      rw [mixL_congr (p' := fun j => decide (j ∈ vals ys)) (f' := fun v => l.getD v 0 ||| x) (g' := fun v => l.getD v 0) (fun v hv => by
        rw [hys]
        have e : decide (v ∈ mem x) = x.testBit v := by
          rw [Bool.eq_iff_iff, decide_eq_true_eq, mem_iff]
          exact ⟨fun h => h.2, fun h => ⟨by omega, h⟩⟩
        rw [e])]
      exact hh)
    gi_wp2
    refine leaves_marks w.heap.size [D] _ ⟨by simp, fun D' hD' => by rw [List.mem_singleton.1 hD']; exact ⟨by omega, hK⟩⟩ (fun w' hb' hk' => ?_)
    exact ⟨_, results_none rfl _ _ _, rfl, HH.out.via hk', hB.trans (BelowBut.of hb' g)⟩
  case stop =>
    rintro D c pre W _ _ h _
    exact h.elim
end Go.Proofs.YtjpmhbnikoggaaaGreatDoor
