/- Contracts: the points of a set as an iterator, and the image of a set under a relation. -/
import Derived.Test.YtogjbghieoifjaaDoorRa
import Derived.RangeFuncNested
import Derived.RangeFuncBound
import Derived.RangeFuncCalls
import Derived.RangeFuncLeaves
import Derived.RangeFuncFrom
import Derived.Shelf.Abstract
import Derived.Shelf.RegionOpen
import Derived.OwnWalkIn
import Derived.TacticsInMore
import Derived.LoopNIn
import Derived.LoopIn
namespace Go.Proofs.YtogjbghieoifjaaDoor
open Go.RowKit Go.Shelf Go.Proofs.Ws
attribute [local go_sem] Oper.semAt_some
/-- what the points are, without the proofs that they are members -/
def vals {p : Nat → Prop} (l : List { k : Nat // p k }) : List Nat := l.map Subtype.val
theorem vals_nil {p : Nat → Prop} : vals ([] : List { k : Nat // p k }) = [] := rfl
theorem vals_snoc {p : Nat → Prop} (l : List { k : Nat // p k }) (x : { k : Nat // p k }) : vals (l ++ [x]) = vals l ++ [x.1] := by unfold vals; rw [List.map_append]; rfl
theorem vals_length {p : Nat → Prop} (l : List { k : Nat // p k }) : (vals l).length = l.length := by unfold vals; rw [List.length_map]
theorem points_any (s : Nat) (w : World) :
    Calls Tryd.prog 61 #[.int .u64 s] w fun e w' => e = .returned (.func (.func 77) #[] #[.pointer (some ⟨w.heap.size, 0, none⟩)]) ∧ w' = w.alloc (.cells #[.int .u64 s] 34) := by
  have hmf : ∀ (fn : Fn) (first cap : Array Value) (w : World), (Instr.makeFunc fn first cap).run Tryd.prog w = .ok (.func fn first cap) w := fun _ _ _ _ => rfl
  go_enter Tryd.func61, Tryd.ntmps61
  go_wp2
  go_ret
  exact ⟨rfl, rfl⟩
set_option maxRecDepth 100000 in
set_option maxHeartbeats 2000000 in
theorem points1_in (n : Nat) (hn : 1 ≤ n) (l Bs n₀ : Nat) (s : Nat) (hs : s < 18446744073709551616) (hn₀ : 0 < n₀) (J Jx : List { k : Nat // k ∈ mem s } → World → Prop)
    (hY : ∀ pre x W, J pre W → pre.length < (mem s).length → YieldAt Fence.wide (n - 1) Tryd.prog l #[.int .i64 (x.1 : Int)] W fun e W' =>
      (e = .returned (.bool true) ∧ J (pre ++ [x]) W' ∧ Below n₀ W W') ∨ (e = .returned (.bool false) ∧ Jx (pre ++ [x]) W'))
    (W : World) (hBs : W.cell? ⟨Bs, 0, none⟩ = some (.int .u64 s)) (hT : Tab W) (h0 : J [] W) :
    CallsIn Fence.wide n Tryd.prog 77 #[.func (.yield l) #[] #[], .pointer (some ⟨Bs, 0, none⟩)] W fun e W' => (∃ v, e = .returned v) ∧
      ((∃ ys : List { k : Nat // k ∈ mem s }, vals ys = mem s ∧ J ys W') ∨ (∃ pre : List { k : Nat // k ∈ mem s }, vals pre <+: mem s ∧ Jx pre W')) := by
  have HS := Lib.hid hs
  have HT := Lib.hid hT
  have HY := Lib.hid hY
  have H0 := Lib.hid h0
  clear hs hT hY h0
  refine callsIn_of_wp Tryd.func77 rfl trivial ?_ rfl
  simp only [Tryd.ntmps77, List.size_toArray, List.length_cons, List.length_nil, Nat.reduceAdd, Nat.reduceSub, Array.replicate_succ, Array.replicate_zero, List.push_toArray, List.append_toArray, List.nil_append, List.cons_append]
  gi_wp2
  gi_loopw [3] (fun rv wr => ∃ (r : Nat) (pre : List { k : Nat // k ∈ mem s }), rv = .int .u64 r ∧ Hid (r < 18446744073709551616) ∧ Hid (mem s = vals pre ++ mem r) ∧ Hid (J pre wr) ∧ Hid (Below n₀ W wr))
    (fun rv _ => (intOf rv).toNat)
  case atStart => exact ⟨s, [], rfl, HS, Lib.hid rfl, H0, Lib.hid (Below.refl _ _)⟩
  case round =>
    obtain ⟨r, pre, rfl, Hr, HM, HJ, HB⟩ := hrel
    by_cases h0 : r = 0
    · subst h0
      have HE : Hid (vals pre = mem s) := Lib.hid (by have := HM.out; rw [mem_zero, List.append_nil] at this; exact this.symm)
      gi_wp2
      go_end0
      exact ⟨⟨_, rfl⟩, .inl ⟨pre, HE.out, HJ.out⟩⟩
    · have HZ := Lib.hid (tz_any r wr Hr.out h0 (HT.out.belowAt HB.out hn₀))
      have hne : ((r : Int) != 0) = true := by simp; omega
      have hap := andpred r h0 Hr.out
      have hst := mem_step r h0 Hr.out
      have hin : low r ∈ mem s := by rw [HM.out, hst]; simp
      have hlt : pre.length < (mem s).length := by have := congrArg List.length HM.out; rw [hst, List.length_append, vals_length, List.length_cons] at this; omega
      obtain ⟨x, hx⟩ : ∃ x : { k : Nat // k ∈ mem s }, x.1 = low r := ⟨⟨low r, hin⟩, rfl⟩
      obtain ⟨fn, tmps, assign, body, hy, hR⟩ := HY.out pre x wr HJ.out hlt
      rw [hx] at hy
      have HR := Lib.hid hR
      have HM2 : Hid (mem s = vals (pre ++ [x]) ++ mem (r &&& (r - 1))) := Lib.hid (by rw [vals_snoc, List.append_assoc, List.singleton_append, hx, ← hst]; exact HM.out)
      clear hx
      have HPL := Lib.hid (and_pred_lt r h0)
      clear h0 hst hlt hR
      gi_wp2_with (first | (refine ⟨trivial, ?_⟩; gi_at_call 70; refine (callsIn_wide.2 (HZ.out)).mono ?_; rintro e w' ⟨rfl, rfl⟩))
      refine (HR.out).mono ?_
      rintro e W3 (⟨rfl, hJ3, hk3⟩ | ⟨rfl, hJx3⟩)
      · have HJ3 := Lib.hid hJ3
        have HB3 := Lib.hid (HB.out.trans hk3)
        clear hJ3 hk3
        gi_wp2
        go_roundw
        case rel => exact ⟨r &&& (r - 1), pre ++ [x], rfl, Lib.hid (by have := HPL.out; have := Hr.out; omega), HM2, HJ3, HB3⟩
        case measure => have := HPL.out; simp [intOf]; omega
      · have HJ3 := Lib.hid hJx3
        clear hJx3
        gi_wp2
        refine bodyPost_ret (results_none rfl _ _ _) rfl ?_
        exact ⟨⟨_, rfl⟩, .inr ⟨pre ++ [x], ⟨mem (r &&& (r - 1)), HM2.out.symm⟩, HJ3.out⟩⟩
theorem cell_of_box_l {W : World} {B : Nat} {v : Value} {t : TypeId} (h : W.heap[B]? = some (.cells #[v] t (0, 0))) : W.cell? ⟨B, 0, none⟩ = some v ∧ W.frozen? ⟨B, 0, none⟩ = false := by
  constructor <;> simp [World.cell?, World.frozen?, h]
theorem cell_new_l (W : World) (v : Value) (t : TypeId) : (W.alloc (.cells #[v] t)).cell? ⟨W.heap.size, 0, none⟩ = some v ∧ (W.alloc (.cells #[v] t)).frozen? ⟨W.heap.size, 0, none⟩ = false :=
  cell_of_box_l (World.alloc_heap_new W _)
theorem cell_alloc_l {W : World} {a : Addr} {v : Value} (o : Obj) (h : W.cell? a = some v) : (W.alloc o).cell? a = some v := cell_kept h (World.grownBy_alloc W o none) (fun r e => by cases e)
theorem frozen_alloc_l {W : World} {a : Addr} {v : Value} (o : Obj) (h : W.cell? a = some v) (hf : W.frozen? a = false) : (W.alloc o).frozen? a = false := (frozen_kept h (World.grownBy_alloc W o none) (fun r e => by cases e)).trans hf
theorem points_stops (n : Nat) (hn : 1 ≤ n) (Bs n₀ : Nat) (s : Nat) (w : World) (hs : s < 18446744073709551616) (hB : Bs < w.heap.size) (hn₀ : 0 < n₀) (hc : w.cell? ⟨Bs, 0, none⟩ = some (.int .u64 s)) (hT : Tab w) :
    SeqStopsK Fence.wide n Tryd.prog 77 #[.pointer (some ⟨Bs, 0, none⟩)] (fun x : { k : Nat // k ∈ mem s } => #[Value.int .i64 (x.1 : Int)]) (Below n₀) (fun ys => vals ys = mem s) (fun pre => vals pre <+: mem s) (mem s).length w :=
  fun l J Jx W hW _ _ hY h0 => points1_in n hn l Bs n₀ s hs hn₀ J Jx hY W ((hW.cell (p := ⟨Bs, 0, none⟩) hB).trans hc) (hT.belowAt hW (by omega)) h0
/-- the successors of some points -/
def imgL (R : List Nat) (ks : List Nat) : Nat := ks.foldl (fun a k => a ||| R.getD k 0) 0
theorem imgL_snoc (R : List Nat) (ks : List Nat) (k : Nat) : imgL R (ks ++ [k]) = imgL R ks ||| R.getD k 0 := by simp [imgL]
/-- the successors of the points of a set -/
def imgV (R : List Nat) (s : Nat) : Nat := imgL R (mem (s &&& allV R.length))
theorem words_getD {R : List Nat} (h : Words R) (k : Nat) : R.getD k 0 < 18446744073709551616 := by
  rw [List.getD_eq_getElem?_getD]
  by_cases hk : k < R.length
  · rw [List.getElem?_eq_getElem hk]; exact h _ (List.getElem_mem hk)
  · rw [List.getElem?_eq_none (by omega)]; decide
theorem foldOr_lt (R : List Nat) (h : Words R) : ∀ (ks : List Nat) (a : Nat), a < 18446744073709551616 → ks.foldl (fun a k => a ||| R.getD k 0) a < 18446744073709551616
  | [], _, ha => ha
  | k :: ks, _, ha => foldOr_lt R h ks _ (Nat.or_lt_two_pow (n := 64) ha (words_getD h k))
theorem imgL_lt {R : List Nat} (h : Words R) (ks : List Nat) : imgL R ks < 18446744073709551616 := foldOr_lt R h ks 0 (by decide)
set_option maxRecDepth 100000 in
set_option maxHeartbeats 2000000 in
theorem image_any (R : List Nat) (A : Option Addr) (m c s : Nat) (w : World) (hs : s < 18446744073709551616) (hR : Reads w w.heap.size 1 A m (us R)) (hw : Words R) (hm : m ≤ 64) (hT : Tab w) :
    Calls Tryd.prog 56 #[.slice A m c, .int .u64 s] w fun e w' => e = .returned (.int .u64 (imgV R s : Int)) ∧ Below w.heap.size w w' := by
  have hlen := hR.word_len
  have hand : bits .and .u64 (s : Int) (allV m : Int) = ((s &&& allV m : Nat) : Int) := u64_and_nat s (allV m) hs (allV_lt m)
  have HA := Lib.hid (fun w => relAll_any m w hm)
  have HR := Lib.hid hR
  have HW := Lib.hid hw
  have HT := Lib.hid hT
  have HV : Hid (imgV R s = imgL R (mem (s &&& allV m))) := Lib.hid (by unfold imgV; rw [hlen])
  have hsm : s &&& allV m < 18446744073709551616 := Nat.lt_of_le_of_lt Nat.and_le_left hs
  have HM : Hid (∀ k ∈ mem (s &&& allV m), k < m) := Lib.hid (fun k hk => by
    have := (mem_iff _ _).1 hk
    rw [Nat.testBit_and, show allV (m : Int) = 2 ^ m - 1 from by unfold allV; rw [if_pos (by omega)]; rfl, Nat.testBit_two_pow_sub_one] at this
    simp at this
    omega)
  generalize s &&& allV m = t at *
  generalize imgV R s = v at *
  clear hs hR hw hT hlen
  refine (callsIn_wide (n := 6)).1 ?_
  refine callsIn_of_wp_marks Tryd.func56 rfl trivial ?_ rfl
  simp only [Tryd.ntmps56, List.size_toArray, List.length_cons, List.length_nil, Nat.reduceAdd, Nat.reduceSub, Array.replicate_succ, Array.replicate_zero, List.push_toArray, List.append_toArray, List.nil_append, List.cons_append]
  gi_wp2_with (first | (refine ⟨trivial, ?_⟩; gi_at_call 45; refine (callsIn_wide.2 (HA.out _)).mono ?_; rintro e w' ⟨rfl, rfl⟩) | (refine ⟨trivial, ?_⟩; gi_at_call 61; refine (callsIn_wide.2 (points_any _ _)).mono ?_; rintro e w' ⟨rfl, rfl⟩))
  have b0 := cell_new_l w (.slice A m c) 22
  have b1 := cell_new_l (w.alloc (.cells #[.slice A m c] 22)) (.int .u64 0) 34
  have b2 := cell_new_l ((w.alloc (.cells #[.slice A m c] 22)).alloc (.cells #[.int .u64 0] 34)) (.int .u64 t) 34
  simp only [World.size_alloc] at b1 b2
  have hB0 : Below w.heap.size w (((w.alloc (.cells #[.slice A m c] 22)).alloc (.cells #[.int .u64 0] 34)).alloc (.cells #[.int .u64 t] 34)) := (((Below.refl _ w).alloc (Nat.le_refl _) _).alloc (by simp) _).alloc (by simp; omega) _
  refine wpIn_rangeFunc_ownF rfl (by omega) (gf := 77) (lb := #[.pointer (some ⟨w.heap.size + 1 + 1, 0, none⟩)]) rfl trivial (enters_of Tryd.func77 (by kernel_rfl) rfl)
    (points_stops 5 (by omega) (w.heap.size + 1 + 1) w.heap.size t _ hsm (by simp) HT.out.2 b2.1 (HT.out.below hB0)) belowK_t (belowK_b (by simp; omega)) (Below.refl _ _) (fun _ => rfl)
    (fun pre W => (W.cell? ⟨w.heap.size, 0, none⟩ = some (.slice A m c) ∧ W.cell? ⟨w.heap.size + 1, 0, none⟩ = some (.int .u64 (imgL R (vals pre) : Int)) ∧ W.frozen? ⟨w.heap.size + 1, 0, none⟩ = false) ∧ Below w.heap.size w W)
    (fun _ _ _ => False)
    (OwnFrom.and (Own.from (fun s A B row hs hg hr => ⟨cell_kept hs.1 hg hr, cell_kept hs.2.1 hg hr, (frozen_kept hs.2.1 hg hr).trans hs.2.2⟩) _) (ownFrom_below (Nat.le_refl _) (by simp; omega)))
    (fun _ _ _ _ _ hs _ _ => hs)
    ⟨⟨cell_alloc_l _ (cell_alloc_l _ b0.1), cell_alloc_l _ b1.1, frozen_alloc_l _ b1.1 b1.2⟩, hB0⟩
    (fun x => { tmps := #[.slice A m c, .int .u64 s, .pointer (some ⟨w.heap.size, 0, none⟩), undef, .int .u64 0, .pointer (some ⟨w.heap.size + 1, 0, none⟩), .int .i64 (x.1 : Int), .int .u64 s, .slice A m c, .int .i64 m, .int .u64 (allV m : Int), .int .u64 t, .func (.func 77) #[] #[.pointer (some ⟨w.heap.size + 1 + 1, 0, none⟩)], .int .i64 (x.1 : Int), undef, undef, undef, undef, undef, undef, undef], defers := [] }) ?assign ?body ?done ?stop
  case assign =>
    intro l x W K hK
    gi_wp2
    exact hK
  case body =>
    rintro l pre x W ⟨⟨hc0, hc1, hf1⟩, hB⟩ _
    obtain ⟨ad, y, rfl, hbk, hkl, hy, hym, hd, hc⟩ := (HR.out.below hB).word_at (k := x.1) (HM.out x.1 x.2)
    have hmx : Tryd.prog.follows .mixedOrders = true := by kernel_rfl
    have hor : bits .or .u64 (imgL R (vals pre) : Int) (y : Int) = ((imgL R (vals pre) ||| y : Nat) : Int) := u64_or_nat _ _ (imgL_lt HW.out _) (HW.out y hym)
    have HI : Hid (imgL R (vals (pre ++ [x])) = imgL R (vals pre) ||| y) := Lib.hid (by rw [vals_snoc, imgL_snoc, hy])
    have hxm := HM.out x.1 x.2
    clear hy hym hd hkl
    gi_wp2
    gi_region_with_o (fail)
    all_goals gi_wp2
    all_goals (try go_bits)
    all_goals exact ⟨(KeepsOthers.setCell _ _ _).trans (KeepsOthers.drew _), ((Below.refl w.heap.size W).setCell (p := ⟨w.heap.size + 1, 0, none⟩) (by simp) _).drew, ⟨⟨(World.cell?_setCell_other W ⟨w.heap.size + 1, 0, none⟩ ⟨w.heap.size, 0, none⟩ _ (by simp)).trans hc0, by rw [HI.out]; exact World.cell?_setCell_same' W ⟨w.heap.size + 1, 0, none⟩ _ (by rw [hc1]; rfl), by rw [frozen_drew_own, World.frozen?_setCell]; exact hf1⟩, (hB.setCell (p := ⟨w.heap.size + 1, 0, none⟩) (by simp) _).drew⟩⟩
  case done =>
    rintro D ys W hD hys ⟨⟨_, hc1, _⟩, hB⟩ hK
    rw [hys, ← HV.out] at hc1
    gi_wp2
    refine ⟨by simp, .inl ⟨_, _, rfl, run_takeDeferred hK, ?_⟩⟩
    exact ⟨_, results_tmp rfl _ _ _, rfl, hB.trans (belowK_b (w := w) (Nat.le_refl _) W D _ _ (by simp at hD; omega) hK rfl rfl)⟩
  case stop =>
    rintro D c pre W _ _ h _
    exact h.elim
end Go.Proofs.YtogjbghieoifjaaDoor
