/- Layer 6: texts joined: Ra Rb Rc Rd Re Rf Rg Rh Ri Rj Rk. -/
import Derived.Test.YtjpmhbnikoggaaaDoorNIa
import Derived.RangeFuncNested
import Derived.RangeFuncBound
import Derived.RangeFuncCalls
import Derived.RangeFuncLeaves
import Derived.RangeFuncFrom
import Derived.Shelf.Abstract
import Derived.Shelf.RegionOpen
import Derived.OwnWalkIn
import Derived.TacticsInMore
import Derived.LoopNIn
import Derived.LoopIn
import Derived.Lib.Builder
import Derived.Deep.RegionWith
/- Contracts of layer 2's small functions: the check of a relation on both sides, the set of all points, the set of one point. -/
namespace Go.Proofs.YtjpmhbnikoggaaaDoor
open Go.RowKit Go.Proofs.Ws
theorem quiet_same {P : Program} {f : FuncId} {args : Array Value} {X : Nat → World} {n : Nat} {v : Value} (h : Calls P f args (X n) fun e w' => e = .returned v ∧ X n = w') :
    Calls P f args (X n) fun e w'' => e = .returned v ∧ ∃ m, w'' = X m := h.mono fun _ _ ⟨he, hm⟩ => ⟨he, n, hm.symm⟩
/-- a list of words in cells -/
def us (l : List Nat) : List Value := l.map (fun k : Nat => Value.int .u64 (k : Int))
theorem us_length (l : List Nat) : (us l).length = l.length := by simp [us]
/-- each is a word -/
def Words (l : List Nat) : Prop := ∀ x ∈ l, x < 18446744073709551616
theorem Reads.word_at {w : World} {B n : Nat} {A : Option Addr} {l : List Nat} (h : Reads w B 1 A n (us l)) {k : Nat} (hk : k < n) :
    ∃ ad x, A = some ad ∧ ad.block < B ∧ k < l.length ∧ l.getD k 0 = x ∧ x ∈ l ∧ l.drop k = x :: l.drop (k + 1) ∧ w.cell? (ad.add k) = some (.int .u64 (x : Int)) := by
  obtain ⟨ad, u, hA, hb, hu, hc⟩ := h.at_ hk
  unfold us at hu
  rw [List.getElem?_map] at hu
  have hl : k < l.length := by have := h.1; rw [us_length] at this; omega
  rw [List.getElem?_eq_getElem hl] at hu
  simp at hu
  subst hu
  exact ⟨ad, l[k], hA, hb, hl, by rw [List.getD_eq_getElem?_getD, List.getElem?_eq_getElem hl]; rfl, List.getElem_mem hl, List.drop_eq_getElem_cons hl, hc⟩
theorem Reads.word_len {w : World} {B n : Nat} {A : Option Addr} {l : List Nat} (h : Reads w B 1 A n (us l)) : l.length = n := by have := h.1; rw [us_length] at this; omega
/-- no row leads out of n points -/
def inN (n : Nat) (l : List Nat) : Bool := l.all (fun x => decide (x < 2 ^ n))
/-- the first error of a relation over n points -/
def relErr (n : Int) (l : List Nat) : Int := if n < 0 ∨ 64 < n then 2 else if (l.length : Int) ≠ n then 3 else if inN n.toNat l then 0 else 1
theorem relAll_any (n : Nat) (w : World) (h : n ≤ 64) :
    Calls Tryd.prog 105 #[.int .i64 n] w fun e w' => e = .returned (.int .u64 (allV n : Int)) ∧ w = w' := by
  have hv := wrap_allV n h
  go_enter Tryd.func105, Tryd.ntmps105
  go_wp2
  go_ret
  exact ⟨rfl, rfl⟩
theorem relOnly_any (n : Nat) (w : World) (h : n < 64) :
    Calls Tryd.prog 99 #[.int .i64 n] w fun e w' => e = .returned (.int .u64 (p2 n : Int)) ∧ w = w' := by
  go_enter Tryd.func99, Tryd.ntmps99
  go_wp2
  go_ret
  exact ⟨ret_u64 (wrap_pow n h), rfl⟩
set_option maxRecDepth 100000 in
set_option maxHeartbeats 1600000 in
theorem check_any (n : Int) (l : List Nat) (A : Option Addr) (m c B : Nat) (w : World) (hR : Reads w B 1 A m (us l)) (hw : Words l) (hm : m ≤ maxLen) :
    Calls Tryd.prog 101 #[.int .i64 n, .slice A m c] w fun e w' => e = .returned (.int .i64 (relErr n l)) ∧ w = w' := by
  unfold maxLen at hm
  have hlen := hR.word_len
  by_cases h0 : n < 0
  · have HV : Hid (relErr n l = 2) := Lib.hid (by unfold relErr; rw [if_pos (by omega)])
    clear hw
    go_enter Tryd.func101, Tryd.ntmps101
    go_wp2
    go_ret
    exact ⟨ret_i64 HV.out.symm, rfl⟩
  · by_cases h1 : 64 < n
    · have HV : Hid (relErr n l = 2) := Lib.hid (by unfold relErr; rw [if_pos (by omega)])
      clear hw
      go_enter Tryd.func101, Tryd.ntmps101
      go_wp2
      go_ret
      exact ⟨ret_i64 HV.out.symm, rfl⟩
    · by_cases h2 : (m : Int) = n
      · subst h2
        have HL := Lib.hid hlen
        have HW := Lib.hid hw
        have HA := Lib.hid (relAll_any m w (by omega))
        have HV : Hid (relErr m l = if inN m l then 0 else 1) := Lib.hid (by unfold relErr; rw [if_neg (by omega), if_neg (by omega)]; rfl)
        clear hlen hw h0
        go_enter Tryd.func101, Tryd.ntmps101
        go_wp2
        go_loop [19] (fun i => ∃ k : Nat, k ≤ m ∧ i = .int .i64 k ∧ Hid (inN m l = inN m (l.drop k))) (fun i => m - (intOf i).toNat)
        case atStart => exact ⟨0, Nat.zero_le _, rfl, Lib.hid rfl⟩
        case round =>
          obtain ⟨k, hk, rfl, HI⟩ := hrel
          by_cases hlt : k < m
          · obtain ⟨ad, x, rfl, hb, hkl, hx, hxm, hd, hc⟩ := hR.word_at hlt
            have hxw := HW.out x hxm
            have hout := outside_in x m hxw (by omega)
            have HD := Lib.hid hd
            clear hx hxm hd hkl
            by_cases hin : x < 2 ^ m
            · have ho : (bits .andNot .u64 (x : Int) (allV m : Int) != 0) = false := by rw [hout]; simp [hin]
              have HI2 : Hid (inN m l = inN m (l.drop (k + 1))) := Lib.hid (by rw [HI.out, HD.out, inN, List.all_cons, decide_eq_true hin, Bool.true_and]; rfl)
              clear hout hin
              go_wp2_with (go_at_call 105; refine (HA.out).mono ?_; rintro e w' ⟨rfl, rfl⟩)
              go_round
              case rel => exact ⟨k + 1, by omega, by go_num, HI2⟩
              case measure => simp [intOf]; omega
            · have ho : (bits .andNot .u64 (x : Int) (allV m : Int) != 0) = true := by rw [hout]; simp [hin]
              have HE : Hid (inN m l = false) := Lib.hid (by rw [HI.out, HD.out, inN, List.all_cons, decide_eq_false hin, Bool.false_and])
              clear hout hin
              go_wp2_with (go_at_call 105; refine (HA.out).mono ?_; rintro e w' ⟨rfl, rfl⟩)
              go_ret
              exact ⟨ret_i64 (by rw [HV.out, HE.out]; rfl), rfl⟩
          · have HE : Hid (inN m l = true) := Lib.hid (by rw [HI.out, List.drop_eq_nil_of_le (by have := HL.out; omega)]; rfl)
            go_wp2
            go_ret
            exact ⟨ret_i64 (by rw [HV.out, HE.out]; rfl), rfl⟩
      · have HV : Hid (relErr n l = 3) := Lib.hid (by unfold relErr; rw [if_neg (by omega), if_pos (by omega)])
        clear hw
        go_enter Tryd.func101, Tryd.ntmps101
        go_wp2
        go_ret
        exact ⟨ret_i64 HV.out.symm, rfl⟩
theorem valid_any (l : List Nat) (A : Option Addr) (m c B : Nat) (w : World) (hR : Reads w B 1 A m (us l)) (hw : Words l) (hm : m ≤ maxLen) :
    Calls Tryd.prog 98 #[.slice A m c] w fun e w' => e = .returned (.bool (decide (relErr m l = 0))) ∧ w = w' := by
  have H := Lib.hid (check_any m l A m c B w hR hw hm)
  clear hw hR
  go_enter Tryd.func98, Tryd.ntmps98
  go_wp2_with fail
  refine (H.out).mono ?_
  rintro e w' ⟨rfl, rfl⟩
  go_wp2
  go_ret
  exact ⟨ret_bool (by first | rfl | (rw [Bool.eq_iff_iff]; simp)), rfl⟩
end Go.Proofs.YtjpmhbnikoggaaaDoor
/- Contracts: the points of a set as an iterator, and the image of a set under a relation. -/
namespace Go.Proofs.YtjpmhbnikoggaaaDoor
open Go.RowKit Go.Shelf Go.Proofs.Ws
attribute [local go_sem] Oper.semAt_some
/-- what the points are, without the proofs that they are members -/
def vals {p : Nat → Prop} (l : List { k : Nat // p k }) : List Nat := l.map Subtype.val
theorem vals_nil {p : Nat → Prop} : vals ([] : List { k : Nat // p k }) = [] := rfl
theorem vals_snoc {p : Nat → Prop} (l : List { k : Nat // p k }) (x : { k : Nat // p k }) : vals (l ++ [x]) = vals l ++ [x.1] := by unfold vals; rw [List.map_append]; rfl
theorem vals_length {p : Nat → Prop} (l : List { k : Nat // p k }) : (vals l).length = l.length := by unfold vals; rw [List.length_map]
theorem points_any (s : Nat) (w : World) :
    Calls Tryd.prog 102 #[.int .u64 s] w fun e w' => e = .returned (.func (.func 106) #[] #[.pointer (some ⟨w.heap.size, 0, none⟩)]) ∧ w' = w.alloc (.cells #[.int .u64 s] 31) := by
  have hmf : ∀ (fn : Fn) (first cap : Array Value) (w : World), (Instr.makeFunc fn first cap).run Tryd.prog w = .ok (.func fn first cap) w := fun _ _ _ _ => rfl
  go_enter Tryd.func102, Tryd.ntmps102
  go_wp2
  go_ret
  exact ⟨rfl, rfl⟩
set_option maxRecDepth 100000 in
set_option maxHeartbeats 2000000 in
theorem points1_in (n : Nat) (hn : 1 ≤ n) (l Bs n₀ : Nat) (s : Nat) (hs : s < 18446744073709551616) (hn₀ : 0 < n₀) (J Jx : List { k : Nat // k ∈ mem s } → World → Prop)
    (hY : ∀ pre x W, J pre W → pre.length < (mem s).length → YieldAt Fence.wide (n - 1) Tryd.prog l #[.int .i64 (x.1 : Int)] W fun e W' =>
      (e = .returned (.bool true) ∧ J (pre ++ [x]) W' ∧ Below n₀ W W') ∨ (e = .returned (.bool false) ∧ Jx (pre ++ [x]) W'))
    (W : World) (hBs : W.cell? ⟨Bs, 0, none⟩ = some (.int .u64 s)) (hT : Tab W) (h0 : J [] W) :
    CallsIn Fence.wide n Tryd.prog 106 #[.func (.yield l) #[] #[], .pointer (some ⟨Bs, 0, none⟩)] W fun e W' => (∃ v, e = .returned v) ∧
      ((∃ ys : List { k : Nat // k ∈ mem s }, vals ys = mem s ∧ J ys W') ∨ (∃ pre : List { k : Nat // k ∈ mem s }, vals pre <+: mem s ∧ Jx pre W')) := by
  have HS := Lib.hid hs
  have HT := Lib.hid hT
  have HY := Lib.hid hY
  have H0 := Lib.hid h0
  clear hs hT hY h0
  refine callsIn_of_wp Tryd.func106 rfl trivial ?_ rfl
  simp only [Tryd.ntmps106, List.size_toArray, List.length_cons, List.length_nil, Nat.reduceAdd, Nat.reduceSub, Array.replicate_succ, Array.replicate_zero, List.push_toArray, List.append_toArray, List.nil_append, List.cons_append]
  gi_wp2
  gi_loopw [3] (fun rv wr => ∃ (r : Nat) (pre : List { k : Nat // k ∈ mem s }), rv = .int .u64 r ∧ Hid (r < 18446744073709551616) ∧ Hid (mem s = vals pre ++ mem r) ∧ Hid (J pre wr) ∧ Hid (Below n₀ W wr))
    (fun rv _ => (intOf rv).toNat)
  case atStart => exact ⟨s, [], rfl, HS, Lib.hid rfl, H0, Lib.hid (Below.refl _ _)⟩
  case round =>
    obtain ⟨r, pre, rfl, Hr, HM, HJ, HB⟩ := hrel
    by_cases h0 : r = 0
    · subst h0
      have HE : Hid (vals pre = mem s) := Lib.hid (by have := HM.out; rw [mem_zero, List.append_nil] at this; exact this.symm)
      gi_wp2
      go_end0
      exact ⟨⟨_, rfl⟩, .inl ⟨pre, HE.out, HJ.out⟩⟩
    · have HZ := Lib.hid (tz_any r wr Hr.out h0 (HT.out.belowAt HB.out hn₀))
      have hne : ((r : Int) != 0) = true := by simp; omega
      have hap := andpred r h0 Hr.out
      have hst := mem_step r h0 Hr.out
      have hin : low r ∈ mem s := by rw [HM.out, hst]; simp
      have hlt : pre.length < (mem s).length := by have := congrArg List.length HM.out; rw [hst, List.length_append, vals_length, List.length_cons] at this; omega
      obtain ⟨x, hx⟩ : ∃ x : { k : Nat // k ∈ mem s }, x.1 = low r := ⟨⟨low r, hin⟩, rfl⟩
      obtain ⟨fn, tmps, assign, body, hy, hR⟩ := HY.out pre x wr HJ.out hlt
      rw [hx] at hy
      have HR := Lib.hid hR
      have HM2 : Hid (mem s = vals (pre ++ [x]) ++ mem (r &&& (r - 1))) := Lib.hid (by rw [vals_snoc, List.append_assoc, List.singleton_append, hx, ← hst]; exact HM.out)
      clear hx
      have HPL := Lib.hid (and_pred_lt r h0)
      clear h0 hst hlt hR
      gi_wp2_with (first | (refine ⟨trivial, ?_⟩; gi_at_call 42; refine (callsIn_wide.2 (HZ.out)).mono ?_; rintro e w' ⟨rfl, rfl⟩))
      refine (HR.out).mono ?_
      rintro e W3 (⟨rfl, hJ3, hk3⟩ | ⟨rfl, hJx3⟩)
      · have HJ3 := Lib.hid hJ3
        have HB3 := Lib.hid (HB.out.trans hk3)
        clear hJ3 hk3
        gi_wp2
        go_roundw
        case rel => exact ⟨r &&& (r - 1), pre ++ [x], rfl, Lib.hid (by have := HPL.out; have := Hr.out; omega), HM2, HJ3, HB3⟩
        case measure => have := HPL.out; simp [intOf]; omega
      · have HJ3 := Lib.hid hJx3
        clear hJx3
        gi_wp2
        refine bodyPost_ret (results_none rfl _ _ _) rfl ?_
        exact ⟨⟨_, rfl⟩, .inr ⟨pre ++ [x], ⟨mem (r &&& (r - 1)), HM2.out.symm⟩, HJ3.out⟩⟩
theorem cell_of_box_l {W : World} {B : Nat} {v : Value} {t : TypeId} (h : W.heap[B]? = some (.cells #[v] t (0, 0))) : W.cell? ⟨B, 0, none⟩ = some v ∧ W.frozen? ⟨B, 0, none⟩ = false := by
  constructor <;> simp [World.cell?, World.frozen?, h]
theorem cell_new_l (W : World) (v : Value) (t : TypeId) : (W.alloc (.cells #[v] t)).cell? ⟨W.heap.size, 0, none⟩ = some v ∧ (W.alloc (.cells #[v] t)).frozen? ⟨W.heap.size, 0, none⟩ = false :=
  cell_of_box_l (World.alloc_heap_new W _)
theorem cell_alloc_l {W : World} {a : Addr} {v : Value} (o : Obj) (h : W.cell? a = some v) : (W.alloc o).cell? a = some v := cell_kept h (World.grownBy_alloc W o none) (fun r e => by cases e)
theorem frozen_alloc_l {W : World} {a : Addr} {v : Value} (o : Obj) (h : W.cell? a = some v) (hf : W.frozen? a = false) : (W.alloc o).frozen? a = false := (frozen_kept h (World.grownBy_alloc W o none) (fun r e => by cases e)).trans hf
theorem points_stops (n : Nat) (hn : 1 ≤ n) (Bs n₀ : Nat) (s : Nat) (w : World) (hs : s < 18446744073709551616) (hB : Bs < w.heap.size) (hn₀ : 0 < n₀) (hc : w.cell? ⟨Bs, 0, none⟩ = some (.int .u64 s)) (hT : Tab w) :
    SeqStopsK Fence.wide n Tryd.prog 106 #[.pointer (some ⟨Bs, 0, none⟩)] (fun x : { k : Nat // k ∈ mem s } => #[Value.int .i64 (x.1 : Int)]) (Below n₀) (fun ys => vals ys = mem s) (fun pre => vals pre <+: mem s) (mem s).length w :=
  fun l J Jx W hW _ _ hY h0 => points1_in n hn l Bs n₀ s hs hn₀ J Jx hY W ((hW.cell (p := ⟨Bs, 0, none⟩) hB).trans hc) (hT.belowAt hW (by omega)) h0
/-- the successors of some points -/
def imgL (R : List Nat) (ks : List Nat) : Nat := ks.foldl (fun a k => a ||| R.getD k 0) 0
theorem imgL_snoc (R : List Nat) (ks : List Nat) (k : Nat) : imgL R (ks ++ [k]) = imgL R ks ||| R.getD k 0 := by simp [imgL]
/-- the successors of the points of a set -/
def imgV (R : List Nat) (s : Nat) : Nat := imgL R (mem (s &&& allV R.length))
theorem words_getD {R : List Nat} (h : Words R) (k : Nat) : R.getD k 0 < 18446744073709551616 := by
  rw [List.getD_eq_getElem?_getD]
  by_cases hk : k < R.length
  · rw [List.getElem?_eq_getElem hk]; exact h _ (List.getElem_mem hk)
  · rw [List.getElem?_eq_none (by omega)]; decide
theorem foldOr_lt (R : List Nat) (h : Words R) : ∀ (ks : List Nat) (a : Nat), a < 18446744073709551616 → ks.foldl (fun a k => a ||| R.getD k 0) a < 18446744073709551616
  | [], _, ha => ha
  | k :: ks, _, ha => foldOr_lt R h ks _ (Nat.or_lt_two_pow (n := 64) ha (words_getD h k))
theorem imgL_lt {R : List Nat} (h : Words R) (ks : List Nat) : imgL R ks < 18446744073709551616 := foldOr_lt R h ks 0 (by decide)
set_option maxRecDepth 100000 in
set_option maxHeartbeats 2000000 in
theorem image_any (R : List Nat) (A : Option Addr) (m c s : Nat) (w : World) (hs : s < 18446744073709551616) (hR : Reads w w.heap.size 1 A m (us R)) (hw : Words R) (hm : m ≤ 64) (hT : Tab w) :
    Calls Tryd.prog 103 #[.slice A m c, .int .u64 s] w fun e w' => e = .returned (.int .u64 (imgV R s : Int)) ∧ Below w.heap.size w w' := by
  have hlen := hR.word_len
  have hand : bits .and .u64 (s : Int) (allV m : Int) = ((s &&& allV m : Nat) : Int) := u64_and_nat s (allV m) hs (allV_lt m)
  have HA := Lib.hid (fun w => relAll_any m w hm)
  have HR := Lib.hid hR
  have HW := Lib.hid hw
  have HT := Lib.hid hT
  have HV : Hid (imgV R s = imgL R (mem (s &&& allV m))) := Lib.hid (by unfold imgV; rw [hlen])
  have hsm : s &&& allV m < 18446744073709551616 := Nat.lt_of_le_of_lt Nat.and_le_left hs
  have HM : Hid (∀ k ∈ mem (s &&& allV m), k < m) := Lib.hid (fun k hk => by
    have := (mem_iff _ _).1 hk
    rw [Nat.testBit_and, show allV (m : Int) = 2 ^ m - 1 from by unfold allV; rw [if_pos (by omega)]; rfl, Nat.testBit_two_pow_sub_one] at this
    simp at this
    omega)
  generalize s &&& allV m = t at *
  generalize imgV R s = v at *
  clear hs hR hw hT hlen
  refine (callsIn_wide (n := 6)).1 ?_
  refine callsIn_of_wp_marks Tryd.func103 rfl trivial ?_ rfl
  simp only [Tryd.ntmps103, List.size_toArray, List.length_cons, List.length_nil, Nat.reduceAdd, Nat.reduceSub, Array.replicate_succ, Array.replicate_zero, List.push_toArray, List.append_toArray, List.nil_append, List.cons_append]
  gi_wp2_with (first | (refine ⟨trivial, ?_⟩; gi_at_call 105; refine (callsIn_wide.2 (HA.out _)).mono ?_; rintro e w' ⟨rfl, rfl⟩) | (refine ⟨trivial, ?_⟩; gi_at_call 102; refine (callsIn_wide.2 (points_any _ _)).mono ?_; rintro e w' ⟨rfl, rfl⟩))
  have b0 := cell_new_l w (.slice A m c) 22
  have b1 := cell_new_l (w.alloc (.cells #[.slice A m c] 22)) (.int .u64 0) 31
  have b2 := cell_new_l ((w.alloc (.cells #[.slice A m c] 22)).alloc (.cells #[.int .u64 0] 31)) (.int .u64 t) 31
  simp only [World.size_alloc] at b1 b2
  have hB0 : Below w.heap.size w (((w.alloc (.cells #[.slice A m c] 22)).alloc (.cells #[.int .u64 0] 31)).alloc (.cells #[.int .u64 t] 31)) := (((Below.refl _ w).alloc (Nat.le_refl _) _).alloc (by simp) _).alloc (by simp; omega) _
  refine wpIn_rangeFunc_ownF rfl (by omega) (gf := 106) (lb := #[.pointer (some ⟨w.heap.size + 1 + 1, 0, none⟩)]) rfl trivial (enters_of Tryd.func106 (by kernel_rfl) rfl)
    (points_stops 5 (by omega) (w.heap.size + 1 + 1) w.heap.size t _ hsm (by simp) HT.out.2 b2.1 (HT.out.below hB0)) belowK_t (belowK_b (by simp; omega)) (Below.refl _ _) (fun _ => rfl)
    (fun pre W => (W.cell? ⟨w.heap.size, 0, none⟩ = some (.slice A m c) ∧ W.cell? ⟨w.heap.size + 1, 0, none⟩ = some (.int .u64 (imgL R (vals pre) : Int)) ∧ W.frozen? ⟨w.heap.size + 1, 0, none⟩ = false) ∧ Below w.heap.size w W)
    (fun _ _ _ => False)
    (OwnFrom.and (Own.from (fun s A B row hs hg hr => ⟨cell_kept hs.1 hg hr, cell_kept hs.2.1 hg hr, (frozen_kept hs.2.1 hg hr).trans hs.2.2⟩) _) (ownFrom_below (Nat.le_refl _) (by simp; omega)))
    (fun _ _ _ _ _ hs _ _ => hs)
    ⟨⟨cell_alloc_l _ (cell_alloc_l _ b0.1), cell_alloc_l _ b1.1, frozen_alloc_l _ b1.1 b1.2⟩, hB0⟩
    (fun x => { tmps := #[.slice A m c, .int .u64 s, .pointer (some ⟨w.heap.size, 0, none⟩), undef, .int .u64 0, .pointer (some ⟨w.heap.size + 1, 0, none⟩), .int .i64 (x.1 : Int), .int .u64 s, .slice A m c, .int .i64 m, .int .u64 (allV m : Int), .int .u64 t, .func (.func 106) #[] #[.pointer (some ⟨w.heap.size + 1 + 1, 0, none⟩)], .int .i64 (x.1 : Int), undef, undef, undef, undef, undef, undef, undef], defers := [] }) ?assign ?body ?done ?stop
  case assign =>
    intro l x W K hK
    gi_wp2
    exact hK
  case body =>
    rintro l pre x W ⟨⟨hc0, hc1, hf1⟩, hB⟩ _
    obtain ⟨ad, y, rfl, hbk, hkl, hy, hym, hd, hc⟩ := (HR.out.below hB).word_at (k := x.1) (HM.out x.1 x.2)
    have hmx : Tryd.prog.follows .mixedOrders = true := by kernel_rfl
    have hor : bits .or .u64 (imgL R (vals pre) : Int) (y : Int) = ((imgL R (vals pre) ||| y : Nat) : Int) := u64_or_nat _ _ (imgL_lt HW.out _) (HW.out y hym)
    have HI : Hid (imgL R (vals (pre ++ [x])) = imgL R (vals pre) ||| y) := Lib.hid (by rw [vals_snoc, imgL_snoc, hy])
    have hxm := HM.out x.1 x.2
    clear hy hym hd hkl
    gi_wp2
    gi_region_with_o (fail)
    all_goals gi_wp2
    all_goals (try go_bits)
    all_goals exact ⟨(KeepsOthers.setCell _ _ _).trans (KeepsOthers.drew _), ((Below.refl w.heap.size W).setCell (p := ⟨w.heap.size + 1, 0, none⟩) (by simp) _).drew, ⟨⟨(World.cell?_setCell_other W ⟨w.heap.size + 1, 0, none⟩ ⟨w.heap.size, 0, none⟩ _ (by simp)).trans hc0, by rw [HI.out]; exact World.cell?_setCell_same' W ⟨w.heap.size + 1, 0, none⟩ _ (by rw [hc1]; rfl), by rw [frozen_drew_own, World.frozen?_setCell]; exact hf1⟩, (hB.setCell (p := ⟨w.heap.size + 1, 0, none⟩) (by simp) _).drew⟩⟩
  case done =>
    rintro D ys W hD hys ⟨⟨_, hc1, _⟩, hB⟩ hK
    rw [hys, ← HV.out] at hc1
    gi_wp2
    refine ⟨by simp, .inl ⟨_, _, rfl, run_takeDeferred hK, ?_⟩⟩
    exact ⟨_, results_tmp rfl _ _ _, rfl, hB.trans (belowK_b (w := w) (Nat.le_refl _) W D _ _ (by simp at hD; omega) hK rfl rfl)⟩
  case stop =>
    rintro D c pre W _ _ h _
    exact h.elim
end Go.Proofs.YtjpmhbnikoggaaaDoor
/- Contracts of layer 2's reference: membership, image, equality of lists of words; and what a slice of words made here holds. -/
namespace Go.Proofs.YtjpmhbnikoggaaaDoor
open Go.RowKit Go.Proofs.Ws
theorem allV_nat (n : Nat) (h : n ≤ 64) : allV (n : Int) = 2 ^ n - 1 := by unfold allV; rw [if_pos (by omega)]; rfl
theorem mem_below (x n : Nat) (h : n ≤ 64) : mem (x &&& allV n) = (List.range n).filter (fun u => x.testBit u) := by
  have e : List.range 64 = List.range n ++ List.range' n (64 - n) := by
    rw [List.range_eq_range', List.range_eq_range']
    have : 64 = n + (64 - n) := by omega
    conv => lhs; rw [this]
    rw [← List.range'_append_1, Nat.zero_add]
  unfold mem
  rw [e, List.filter_append]
  have f1 : (List.range' n (64 - n)).filter (fun w => (x &&& allV n).testBit w) = [] := by
    rw [List.filter_eq_nil_iff]
    intro a ha
    have := (List.mem_range'_1.1 ha).1
    rw [Nat.testBit_and, allV_nat n h, Nat.testBit_two_pow_sub_one]
    simp; omega
  rw [f1, List.append_nil]
  apply List.filter_congr
  intro a ha
  have := List.mem_range.1 ha
  rw [Nat.testBit_and, allV_nat n h, Nat.testBit_two_pow_sub_one]
  simp [this]
/-- block g holds just these words -/
def HoldsU (w : World) (g : Nat) (l : List Nat) : Prop := w.heap[g]? = some (.cells (us l).toArray 31 (0, 0))
theorem Tryd.infoU : (Tryd.prog.info? 31).map (fun i => (i.zero, i.size, i.bytes)) = some (some (.int .u64 0), 1, 8) := by kernel_rfl
theorem made_us (n : Nat) : madeCells (Value.int IntKind.u64 0).cells n = (us (List.replicate n 0)).toArray := by
  apply Array.ext
  · simp [madeCells, us]
  · intro i h1 h2
    simp [madeCells, us, Value.cells, Nat.mod_one]
theorem makeU (w : World) (n : Nat) (hn : n ≤ 1000000) : (Instr.makeSlice 22 (.int .i64 (n : Int)) (.int .i64 (n : Int))).run Tryd.prog w = .ok (.slice (some ⟨w.heap.size, 0, none⟩) n n) (w.alloc (.cells (us (List.replicate n 0)).toArray 31)) := by
  obtain ⟨i0, hi, hz0, hz1, hz2⟩ := info_parts Tryd.infoU
  have h := run_make (P := Tryd.prog) w 22 31 i0 (.int .u64 0) Tryd.underlying22 hi hz0 .i64 .i64 n n (by omega) (Int.le_refl _) (by rw [hz2]; omega) (by omega)
  rw [h, hz1]
  simp only [Int.toNat_natCast, Nat.mul_one]
  rw [made_us]
theorem HoldsU.cell {w : World} {g : Nat} {l : List Nat} (h : HoldsU w g l) (k : Nat) (hk : k < l.length) : w.cell? ⟨g, k, none⟩ = some (.int .u64 ((l.getD k 0 : Nat) : Int)) := by
  rw [Lib.cell_of_heap h, List.getElem?_toArray]
  unfold us
  rw [List.getElem?_map, List.getElem?_eq_getElem hk, List.getD_eq_getElem?_getD, List.getElem?_eq_getElem hk]
  rfl
theorem HoldsU.free {w : World} {g : Nat} {l : List Nat} (h : HoldsU w g l) (k : Nat) : w.frozen? ⟨g, k, none⟩ = false := Lib.frozen_of_heap h k
theorem HoldsU.put {w : World} {g : Nat} {l : List Nat} (h : HoldsU w g l) (k x : Nat) : HoldsU (w.setCell ⟨g, k, none⟩ (.int .u64 (x : Int))) g (l.set k x) := by
  unfold HoldsU at h ⊢
  have e : (us (l.set k x)).toArray = (us l).toArray.setIfInBounds k (.int .u64 (x : Int)) := by
    unfold us
    rw [List.map_set]
    simp
  rw [e]
  simp [World.setCell, Array.getElem?_modify, h]
theorem HoldsU.far {w : World} {g g' : Nat} {l : List Nat} (h : HoldsU w g l) (hne : g ≠ g') (k : Nat) (u : Value) : HoldsU (w.setCell ⟨g', k, none⟩ u) g l :=
  (Below.heap_setCell w ⟨g', k, none⟩ u g hne).trans h
theorem HoldsU.made (w : World) (l : List Nat) : HoldsU (w.alloc (.cells (us l).toArray 31)) w.heap.size l := heap_alloc_new w _
theorem HoldsU.lt {w : World} {g : Nat} {l : List Nat} (h : HoldsU w g l) : g < w.heap.size := (Array.getElem?_eq_some_iff.1 h).1
theorem HoldsU.alloc {w : World} {g : Nat} {l : List Nat} (h : HoldsU w g l) (o : Obj) : HoldsU (w.alloc o) g l := (Below.heap_alloc w o g h.lt).trans h
theorem addr0 (g j : Nat) : (⟨g, 0, none⟩ : Addr).add j = ⟨g, j, none⟩ := by
  unfold Addr.add
  split
  · subst_vars; rfl
  · simp
theorem HoldsU.reads {w : World} {g : Nat} {l : List Nat} (h : HoldsU w g l) : Reads w w.heap.size 1 (some ⟨g, 0, none⟩) l.length (us l) := by
  refine ⟨by rw [us_length]; omega, fun _ => ⟨_, rfl, h.lt, fun j u hu => ?_⟩⟩
  rw [addr0]
  unfold us at hu
  rw [List.getElem?_map] at hu
  obtain ⟨k, hk, rfl⟩ := Option.map_eq_some_iff.1 hu
  have hj : j < l.length := by
    by_cases h' : j < l.length
    · exact h'
    · rw [List.getElem?_eq_none (by omega)] at hk; cases hk
  rw [h.cell j hj, List.getD_eq_getElem?_getD, hk]; rfl
/-- what a call hands back: a new relation, and no error -/
def GivesR (l : List Nat) (w : World) (e : Ending) (w' : World) : Prop :=
  ∃ A c, e = .returned (.tuple #[.slice A l.length c, .int .i64 0]) ∧ Reads w' w'.heap.size 1 A l.length (us l) ∧ Below w.heap.size w w'
/-- .. or nothing, and an error -/
def GivesE (x : Int) (w : World) (e : Ending) (w' : World) : Prop := e = .returned (.tuple #[.slice none 0 0, .int .i64 x]) ∧ Below w.heap.size w w'
end Go.Proofs.YtjpmhbnikoggaaaDoor
/- Contracts of layer 2: composition, union and meet by the program. -/
namespace Go.Proofs.YtjpmhbnikoggaaaDoor
open Go.RowKit Go.Proofs.Ws
theorem HoldsU.below {w w' : World} {B g : Nat} {l : List Nat} (h : HoldsU w g l) (hb : Below B w w') (hg : g < B) : HoldsU w' g l := (hb.block g hg).trans h
def unionV (R S : List Nat) : List Nat := (List.range R.length).map (fun k => R.getD k 0 ||| S.getD k 0)
theorem Reads.word_k {w : World} {B n : Nat} {A : Option Addr} {l : List Nat} (h : Reads w B 1 A n (us l)) {k : Nat} (hk : k < n) :
    ∃ ad, A = some ad ∧ ad.block < B ∧ w.cell? (ad.add k) = some (.int .u64 ((l.getD k 0 : Nat) : Int)) := by
  obtain ⟨ad, x, hA, hb, _, hx, _, _, hc⟩ := h.word_at hk
  exact ⟨ad, hA, hb, by rw [hx]; exact hc⟩
end Go.Proofs.YtjpmhbnikoggaaaDoor
/- Contracts of layer 2's reference: composition, union, meet, converse. -/
namespace Go.Proofs.YtjpmhbnikoggaaaDoor
open Go.RowKit Go.Proofs.Ws
/-- a list of f's values where p says so, and of g's elsewhere -/
def mixL (p : Nat → Bool) (f g : Nat → Nat) (m : Nat) : List Nat := (List.range m).map (fun v => if p v then f v else g v)
theorem mixL_length (p : Nat → Bool) (f g : Nat → Nat) (m : Nat) : (mixL p f g m).length = m := by simp [mixL]
theorem mixL_getD (p : Nat → Bool) (f g : Nat → Nat) (m v : Nat) (h : v < m) : (mixL p f g m).getD v 0 = if p v then f v else g v := by
  rw [List.getD_eq_getElem?_getD, mixL, List.getElem?_map, List.getElem?_range h]; rfl
theorem mixL_congr {p p' : Nat → Bool} {f g f' g' : Nat → Nat} {m : Nat} (h : ∀ v, v < m → (if p v then f v else g v) = if p' v then f' v else g' v) : mixL p f g m = mixL p' f' g' m := by
  unfold mixL
  apply List.map_congr_left
  intro v hv
  exact h v (List.mem_range.1 hv)
theorem mixL_set (p p' : Nat → Bool) (f g : Nat → Nat) (m v x : Nat) (hx : (if p' v then f v else g v) = x) (hp : ∀ j, j ≠ v → p' j = p j) : (mixL p f g m).set v x = mixL p' f g m := by
  apply List.ext_getElem
  · simp [mixL]
  · intro i h1 h2
    rw [List.getElem_set]
    by_cases e : v = i
    · subst e; rw [if_pos rfl]; simp [mixL, hx]
    · rw [if_neg e]; simp [mixL, hp i (fun h => e h.symm)]
theorem mixL_start (p : Nat → Bool) (f g : Nat → Nat) (m : Nat) (h : ∀ v, p v = false) (hg : ∀ v, v < m → g v = 0) : mixL p f g m = List.replicate m 0 := by
  apply List.ext_getElem
  · simp [mixL]
  · intro i h1 h2
    simp [mixL, h]
    exact hg i (by simpa [mixL] using h1)
end Go.Proofs.YtjpmhbnikoggaaaDoor
/- Contracts of layer 2: Box and Diamond on both sides. -/
namespace Go.Proofs.YtjpmhbnikoggaaaDoor
open Go.RowKit Go.Proofs.Ws
/-- the points below n whose row passes a test -/
def whU (p : Nat → Bool) (R : List Nat) (n : Nat) : Nat := (List.range n).foldl (fun a k => if p (R.getD k 0) then a ||| p2 k else a) 0
theorem whU_succ (p : Nat → Bool) (R : List Nat) (n : Nat) : whU p R (n + 1) = if p (R.getD n 0) then whU p R n ||| p2 n else whU p R n := by
  unfold whU; rw [List.range_succ, List.foldl_append]; rfl
theorem whU_lt (p : Nat → Bool) (R : List Nat) : ∀ n, n ≤ 64 → whU p R n < 18446744073709551616
  | 0, _ => by show 0 < 18446744073709551616; decide
  | n + 1, h => by
    rw [whU_succ]
    split
    · exact (or_pow _ n (whU_lt p R n (by omega)) (by omega)).2
    · exact whU_lt p R n (by omega)
def whV (p : Nat → Bool) (R : List Nat) : Nat := if relErr R.length R = 0 then whU p R R.length else 0
def pBox (s x : Nat) : Bool := decide (x &&& (18446744073709551615 - s) = 0)
def pDia (s x : Nat) : Bool := decide (x &&& s ≠ 0)
theorem box_bits (x s : Nat) (hx : x < 18446744073709551616) (hs : s < 18446744073709551616) : (bits .andNot .u64 (x : Int) (s : Int) == 0) = pBox s x := by
  rw [u64_andNot_nat x s hx hs]
  unfold pBox
  generalize x &&& (18446744073709551615 - s) = t
  by_cases h : t = 0
  · subst h; rfl
  · rw [decide_eq_false h, beq_eq_false_iff_ne]; omega
theorem dia_bits (x s : Nat) (hx : x < 18446744073709551616) (hs : s < 18446744073709551616) : (bits .and .u64 (x : Int) (s : Int) != 0) = pDia s x := by
  rw [u64_and_nat x s hx hs]
  unfold pDia
  generalize x &&& s = t
  by_cases h : t = 0
  · subst h; rfl
  · rw [decide_eq_true h, bne_iff_ne]; omega
theorem relErr_zero {R : List Nat} {n : Nat} (h : relErr n R = 0) : n ≤ 64 := by
  unfold relErr at h
  split at h
  · cases h
  · omega
theorem box1_any (x s B : Nat) (W : World) (hx : x < 18446744073709551616) (hs : s < 18446744073709551616) (hc : W.cell? ⟨B, 0, none⟩ = some (.int .u64 (s : Int))) :
    Calls Tryd.prog 89 #[.int .u64 x, .pointer (some ⟨B, 0, none⟩)] W fun e W' => e = .returned (.bool (pBox s x)) ∧ W = W' := by
  have hb := box_bits x s hx hs
  clear hx hs
  go_enter Tryd.func89, Tryd.ntmps89
  go_wp2
  go_ret
  exact ⟨ret_bool (by first | rfl | exact hb), rfl⟩
set_option maxRecDepth 100000 in
set_option maxHeartbeats 2000000 in
theorem where_box (R : List Nat) (s : Nat) (A : Option Addr) (m c B : Nat) (w : World) (hR : Reads w w.heap.size 1 A m (us R)) (hw : Words R) (hm : m ≤ maxLen) (hs : s < 18446744073709551616) (hc : w.cell? ⟨B, 0, none⟩ = some (.int .u64 (s : Int))) :
    Calls Tryd.prog 88 #[.slice A m c, .func (.func 89) #[] #[.pointer (some ⟨B, 0, none⟩)]] w fun e w' => e = .returned (.int .u64 (whV (pBox s) R : Int)) ∧ w = w' := by
  have e1 := hR.word_len
  have HC := Lib.hid (valid_any R A m c _ w hR hw hm)
  have HW := Lib.hid hw
  by_cases h0 : relErr m R = 0
  · have hm64 := relErr_zero h0
    have HV : Hid (whV (pBox s) R = whU (pBox s) R m) := Lib.hid (by unfold whV; rw [e1, if_pos h0])
    rw [h0] at HC
    have HCL := Lib.hid (fun x hx => box1_any x s B w hx hs hc)
    clear h0 hw e1 hc
    go_enter Tryd.func88, Tryd.ntmps88
    go_wp2_with (go_at_call 98; refine (HC.out).mono ?_; rintro e w' ⟨rfl, rfl⟩)
    go_loop [5, 13] (fun sv i => ∃ k : Nat, k ≤ m ∧ i = .int .i64 k ∧ sv = .int .u64 (whU (pBox s) R k : Int)) (fun _ i => m - (intOf i).toNat)
    case atStart => exact ⟨0, Nat.zero_le _, rfl, rfl⟩
    case round =>
      obtain ⟨k, hk, rfl, rfl⟩ := hrel
      by_cases hlt : k < m
      · obtain ⟨ad, rfl, hb, hc⟩ := hR.word_k hlt
        have HT := Lib.hid (HCL.out _ (words_getD HW.out k))
        have hor := (or_pow _ k (whU_lt (pBox s) R k (by omega)) (by omega)).1
        have HO := Lib.hid (relOnly_any k w (by omega))
        by_cases hp : pBox s (R.getD k 0) = true
        · have HS : Hid (whU (pBox s) R (k + 1) = whU (pBox s) R k ||| p2 k) := Lib.hid (by rw [whU_succ, if_pos hp])
          rw [hp] at HT
          clear hp
          go_wp2_with (first | (go_at_call 89; refine (HT.out).mono ?_; rintro e w' ⟨rfl, rfl⟩) | (go_at_call 99; refine (HO.out).mono ?_; rintro e w' ⟨rfl, rfl⟩))
          go_round
          case rel => exact ⟨k + 1, by omega, by go_num, by rw [HS.out]⟩
          case measure => simp [intOf]; omega
        · have HS : Hid (whU (pBox s) R (k + 1) = whU (pBox s) R k) := Lib.hid (by rw [whU_succ, if_neg hp])
          have hp' : pBox s (R.getD k 0) = false := by simpa using hp
          rw [hp'] at HT
          clear hp hp'
          go_wp2_with (first | (go_at_call 89; refine (HT.out).mono ?_; rintro e w' ⟨rfl, rfl⟩))
          go_round
          case rel => exact ⟨k + 1, by omega, by go_num, by rw [HS.out]⟩
          case measure => simp [intOf]; omega
      · have hkm : k = m := by omega
        subst hkm
        go_wp2
        go_ret
        exact ⟨ret_u64 (by rw [HV.out]), rfl⟩
  · have HV : Hid (whV (pBox s) R = 0) := Lib.hid (by unfold whV; rw [e1, if_neg h0])
    rw [decide_eq_false h0] at HC
    clear h0 hw e1 hc
    go_enter Tryd.func88, Tryd.ntmps88
    go_wp2_with (go_at_call 98; refine (HC.out).mono ?_; rintro e w' ⟨rfl, rfl⟩)
    go_ret
    exact ⟨ret_u64 (by rw [HV.out]; rfl), rfl⟩
theorem box_any (R : List Nat) (s : Nat) (A : Option Addr) (m c : Nat) (w : World) (hR : Reads w w.heap.size 1 A m (us R)) (hw : Words R) (hm : m ≤ maxLen) (hs : s < 18446744073709551616) :
    Calls Tryd.prog 77 #[.slice A m c, .int .u64 s] w fun e w' => e = .returned (.int .u64 (whV (pBox s) R : Int)) ∧ Below w.heap.size w w' := by
  have hmf : ∀ (fn : Fn) (first cap : Array Value) (w : World), (Instr.makeFunc fn first cap).run Tryd.prog w = .ok (.func fn first cap) w := fun _ _ _ _ => rfl
  have hB0 : Below w.heap.size w (w.alloc (.cells #[.int .u64 s] 31)) := (Below.refl _ w).alloc (Nat.le_refl _) _
  have HC := Lib.hid (where_box R s A m c w.heap.size _ ((hR.below hB0).more (by simp)) hw hm hs (cell_new_l w (.int .u64 s) 31).1)
  have HB := Lib.hid hB0
  clear hR hw hs hB0
  go_enter Tryd.func77, Tryd.ntmps77
  go_wp2_with (go_at_call 88; refine (HC.out).mono ?_; rintro e w' ⟨rfl, rfl⟩)
  go_ret
  exact ⟨rfl, HB.out⟩
theorem dia1_any (x s B : Nat) (W : World) (hx : x < 18446744073709551616) (hs : s < 18446744073709551616) (hc : W.cell? ⟨B, 0, none⟩ = some (.int .u64 (s : Int))) :
    Calls Tryd.prog 90 #[.int .u64 x, .pointer (some ⟨B, 0, none⟩)] W fun e W' => e = .returned (.bool (pDia s x)) ∧ W = W' := by
  have hb := dia_bits x s hx hs
  clear hx hs
  go_enter Tryd.func90, Tryd.ntmps90
  go_wp2
  go_ret
  exact ⟨ret_bool (by first | rfl | exact hb), rfl⟩
set_option maxRecDepth 100000 in
set_option maxHeartbeats 2000000 in
theorem where_dia (R : List Nat) (s : Nat) (A : Option Addr) (m c B : Nat) (w : World) (hR : Reads w w.heap.size 1 A m (us R)) (hw : Words R) (hm : m ≤ maxLen) (hs : s < 18446744073709551616) (hc : w.cell? ⟨B, 0, none⟩ = some (.int .u64 (s : Int))) :
    Calls Tryd.prog 88 #[.slice A m c, .func (.func 90) #[] #[.pointer (some ⟨B, 0, none⟩)]] w fun e w' => e = .returned (.int .u64 (whV (pDia s) R : Int)) ∧ w = w' := by
  have e1 := hR.word_len
  have HC := Lib.hid (valid_any R A m c _ w hR hw hm)
  have HW := Lib.hid hw
  by_cases h0 : relErr m R = 0
  · have hm64 := relErr_zero h0
    have HV : Hid (whV (pDia s) R = whU (pDia s) R m) := Lib.hid (by unfold whV; rw [e1, if_pos h0])
    rw [h0] at HC
    have HCL := Lib.hid (fun x hx => dia1_any x s B w hx hs hc)
    clear h0 hw e1 hc
    go_enter Tryd.func88, Tryd.ntmps88
    go_wp2_with (go_at_call 98; refine (HC.out).mono ?_; rintro e w' ⟨rfl, rfl⟩)
    go_loop [5, 13] (fun sv i => ∃ k : Nat, k ≤ m ∧ i = .int .i64 k ∧ sv = .int .u64 (whU (pDia s) R k : Int)) (fun _ i => m - (intOf i).toNat)
    case atStart => exact ⟨0, Nat.zero_le _, rfl, rfl⟩
    case round =>
      obtain ⟨k, hk, rfl, rfl⟩ := hrel
      by_cases hlt : k < m
      · obtain ⟨ad, rfl, hb, hc⟩ := hR.word_k hlt
        have HT := Lib.hid (HCL.out _ (words_getD HW.out k))
        have hor := (or_pow _ k (whU_lt (pDia s) R k (by omega)) (by omega)).1
        have HO := Lib.hid (relOnly_any k w (by omega))
        by_cases hp : pDia s (R.getD k 0) = true
        · have HS : Hid (whU (pDia s) R (k + 1) = whU (pDia s) R k ||| p2 k) := Lib.hid (by rw [whU_succ, if_pos hp])
          rw [hp] at HT
          clear hp
          go_wp2_with (first | (go_at_call 90; refine (HT.out).mono ?_; rintro e w' ⟨rfl, rfl⟩) | (go_at_call 99; refine (HO.out).mono ?_; rintro e w' ⟨rfl, rfl⟩))
          go_round
          case rel => exact ⟨k + 1, by omega, by go_num, by rw [HS.out]⟩
          case measure => simp [intOf]; omega
        · have HS : Hid (whU (pDia s) R (k + 1) = whU (pDia s) R k) := Lib.hid (by rw [whU_succ, if_neg hp])
          have hp' : pDia s (R.getD k 0) = false := by simpa using hp
          rw [hp'] at HT
          clear hp hp'
          go_wp2_with (first | (go_at_call 90; refine (HT.out).mono ?_; rintro e w' ⟨rfl, rfl⟩))
          go_round
          case rel => exact ⟨k + 1, by omega, by go_num, by rw [HS.out]⟩
          case measure => simp [intOf]; omega
      · have hkm : k = m := by omega
        subst hkm
        go_wp2
        go_ret
        exact ⟨ret_u64 (by rw [HV.out]), rfl⟩
  · have HV : Hid (whV (pDia s) R = 0) := Lib.hid (by unfold whV; rw [e1, if_neg h0])
    rw [decide_eq_false h0] at HC
    clear h0 hw e1 hc
    go_enter Tryd.func88, Tryd.ntmps88
    go_wp2_with (go_at_call 98; refine (HC.out).mono ?_; rintro e w' ⟨rfl, rfl⟩)
    go_ret
    exact ⟨ret_u64 (by rw [HV.out]; rfl), rfl⟩
theorem dia_any (R : List Nat) (s : Nat) (A : Option Addr) (m c : Nat) (w : World) (hR : Reads w w.heap.size 1 A m (us R)) (hw : Words R) (hm : m ≤ maxLen) (hs : s < 18446744073709551616) :
    Calls Tryd.prog 78 #[.slice A m c, .int .u64 s] w fun e w' => e = .returned (.int .u64 (whV (pDia s) R : Int)) ∧ Below w.heap.size w w' := by
  have hmf : ∀ (fn : Fn) (first cap : Array Value) (w : World), (Instr.makeFunc fn first cap).run Tryd.prog w = .ok (.func fn first cap) w := fun _ _ _ _ => rfl
  have hB0 : Below w.heap.size w (w.alloc (.cells #[.int .u64 s] 31)) := (Below.refl _ w).alloc (Nat.le_refl _) _
  have HC := Lib.hid (where_dia R s A m c w.heap.size _ ((hR.below hB0).more (by simp)) hw hm hs (cell_new_l w (.int .u64 s) 31).1)
  have HB := Lib.hid hB0
  clear hR hw hs hB0
  go_enter Tryd.func78, Tryd.ntmps78
  go_wp2_with (go_at_call 88; refine (HC.out).mono ?_; rintro e w' ⟨rfl, rfl⟩)
  go_ret
  exact ⟨rfl, HB.out⟩
end Go.Proofs.YtjpmhbnikoggaaaDoor
/- Contracts of layer 2: the image by the reference, and what is reached, on both sides. -/
namespace Go.Proofs.YtjpmhbnikoggaaaDoor
open Go.RowKit Go.Proofs.Ws
theorem filter_lt (p q : Nat → Bool) : ∀ (l : List Nat), (∀ a ∈ l, p a = true → q a = true) → (∃ a ∈ l, q a = true ∧ p a = false) → (l.filter p).length < (l.filter q).length
  | [], _, h => by obtain ⟨a, ha, _⟩ := h; cases ha
  | b :: l, h, hx => by
    have hle : (l.filter p).length ≤ (l.filter q).length := by
      rw [← List.countP_eq_length_filter, ← List.countP_eq_length_filter]
      exact List.countP_mono_left (fun a ha => h a (List.mem_cons_of_mem _ ha))
    by_cases hp : p b = true
    · have hq := h b (by simp) hp
      rw [List.filter_cons_of_pos hp, List.filter_cons_of_pos hq, List.length_cons, List.length_cons]
      have := filter_lt p q l (fun a ha => h a (List.mem_cons_of_mem _ ha)) (by
        obtain ⟨a, ha, h1, h2⟩ := hx
        rcases List.mem_cons.1 ha with rfl | ha
        · rw [hp] at h2; cases h2
        · exact ⟨a, ha, h1, h2⟩)
      omega
    · rw [List.filter_cons_of_neg hp]
      by_cases hq : q b = true
      · rw [List.filter_cons_of_pos hq, List.length_cons]; omega
      · rw [List.filter_cons_of_neg hq]
        exact filter_lt p q l (fun a ha => h a (List.mem_cons_of_mem _ ha)) (by
          obtain ⟨a, ha, h1, h2⟩ := hx
          rcases List.mem_cons.1 ha with rfl | ha
          · exact absurd h1 hq
          · exact ⟨a, ha, h1, h2⟩)
/-- a set that has more has more members -/
theorem mem_more (x y : Nat) (hx : x < 18446744073709551616) (hy : y < 18446744073709551616) (h : x ||| y ≠ x) : (mem x).length < (mem (x ||| y)).length := by
  unfold mem
  apply filter_lt
  · intro a _ ha; rw [Nat.testBit_or, ha]; rfl
  · apply Classical.byContradiction
    intro hn
    apply h
    apply Nat.eq_of_testBit_eq
    intro i
    by_cases hi : i < 64
    · by_cases hxi : x.testBit i = true
      · rw [Nat.testBit_or, hxi]; rfl
      · have hxi' : x.testBit i = false := by simpa using hxi
        apply Classical.byContradiction
        intro hne
        exact hn ⟨i, List.mem_range.2 hi, by simpa [hxi'] using hne, hxi'⟩
    · rw [Nat.testBit_or, bit_ge x i hx (by omega), bit_ge y i hy (by omega)]; rfl
theorem mem_le (x m : Nat) (hm : m ≤ 64) (h : x < 2 ^ m) : (mem x).length ≤ m := by
  have e : x &&& allV m = x := by
    rw [allV_nat m hm, Nat.and_two_pow_sub_one_eq_mod]; exact Nat.mod_eq_of_lt h
  have := mem_below x m hm
  rw [e] at this
  rw [this]
  have := List.length_filter_le (fun u => x.testBit u) (List.range m)
  simpa using this
def stepR (R : List Nat) (x : Nat) : Nat := x ||| imgV R x
def itR (R : List Nat) : Nat → Nat → Nat
  | 0, x => x
  | n + 1, x => itR R n (stepR R x)
theorem itR_fix (R : List Nat) (x : Nat) (h : stepR R x = x) : ∀ n, itR R n x = x
  | 0 => rfl
  | n + 1 => by rw [itR, h]; exact itR_fix R x h n
theorem itR_comm (R : List Nat) : ∀ n x, itR R (n + 1) x = stepR R (itR R n x)
  | 0, _ => rfl
  | n + 1, x => by rw [itR, itR_comm R n]; rfl
theorem foldOr_in (R : List Nat) (m : Nat) (h : ∀ x ∈ R, x < 2 ^ m) : ∀ (ks : List Nat) (a : Nat), a < 2 ^ m → ks.foldl (fun a k => a ||| R.getD k 0) a < 2 ^ m
  | [], _, ha => ha
  | k :: ks, _, ha => foldOr_in R m h ks _ (Nat.or_lt_two_pow ha (by
    rw [List.getD_eq_getElem?_getD]
    by_cases hk : k < R.length
    · rw [List.getElem?_eq_getElem hk]; exact h _ (List.getElem_mem hk)
    · rw [List.getElem?_eq_none (by omega)]; exact Nat.two_pow_pos m))
theorem imgV_in {R : List Nat} {m : Nat} (h : ∀ x ∈ R, x < 2 ^ m) (s : Nat) : imgV R s < 2 ^ m := foldOr_in R m h _ 0 (Nat.two_pow_pos m)
theorem stepR_in {R : List Nat} {m : Nat} (h : ∀ x ∈ R, x < 2 ^ m) {x : Nat} (hx : x < 2 ^ m) : stepR R x < 2 ^ m := Nat.or_lt_two_pow hx (imgV_in h x)
theorem pow64 {m x : Nat} (hm : m ≤ 64) (h : x < 2 ^ m) : x < 18446744073709551616 := Nat.lt_of_lt_of_le h (Nat.pow_le_pow_right (by decide) hm)
theorem step_more {R : List Nat} {m : Nat} (hm : m ≤ 64) (h : ∀ x ∈ R, x < 2 ^ m) {x : Nat} (hx : x < 2 ^ m) (hne : stepR R x ≠ x) : (mem x).length < (mem (stepR R x)).length ∧ (mem (stepR R x)).length ≤ m :=
  ⟨mem_more _ _ (pow64 hm hx) (pow64 hm (imgV_in h x)) hne, mem_le _ m hm (stepR_in h hx)⟩
theorem itR_stable {R : List Nat} {m : Nat} (hm : m ≤ 64) (h : ∀ x ∈ R, x < 2 ^ m) : ∀ (n x : Nat), x < 2 ^ m → m ≤ n + (mem x).length → stepR R (itR R n x) = itR R n x
  | 0, x, hx, hl => by
    apply Classical.byContradiction
    intro hne
    have := step_more hm h hx hne
    omega
  | n + 1, x, hx, hl => by
    by_cases hf : stepR R x = x
    · rw [itR_fix R x hf]; exact hf
    · have := step_more hm h hx hf
      exact itR_stable hm h n (stepR R x) (stepR_in h hx) (by omega)
/-- the limit does not change on the way -/
theorem lim_step {R : List Nat} {m : Nat} (hm : m ≤ 64) (h : ∀ x ∈ R, x < 2 ^ m) {x : Nat} (hx : x < 2 ^ m) : itR R m (stepR R x) = itR R m x := by
  rw [show itR R m (stepR R x) = itR R (m + 1) x from rfl, itR_comm]
  exact itR_stable hm h m x hx (by omega)
/-- what one or more steps lead to -/
def reachV (R : List Nat) (s : Nat) : Nat := if relErr R.length R = 0 then itR R R.length (imgV R s) else 0
theorem relErr_rows {R : List Nat} {m : Nat} (h : relErr m R = 0) : ∀ x ∈ R, x < 2 ^ m := by
  intro x hx
  unfold relErr at h
  split at h
  · cases h
  · split at h
    · cases h
    · split at h
      · rename_i h3
        unfold inN at h3
        have := List.all_eq_true.1 h3 x hx
        simpa using this
      · cases h
set_option maxRecDepth 100000 in
set_option maxHeartbeats 2000000 in
theorem reach_any (R : List Nat) (s : Nat) (A : Option Addr) (m c : Nat) (w : World) (hR : Reads w w.heap.size 1 A m (us R)) (hw : Words R) (hm : m ≤ maxLen) (hs : s < 18446744073709551616) (hT : Tab w) :
    Calls Tryd.prog 95 #[.slice A m c, .int .u64 s] w fun e w' => e = .returned (.int .u64 (reachV R s : Int)) ∧ Below w.heap.size w w' := by
  have e1 := hR.word_len
  have HC := Lib.hid (valid_any R A m c _ w hR hw hm)
  by_cases h0 : relErr m R = 0
  · have hm64 := relErr_zero h0
    have hrows := relErr_rows h0
    have HROWS := Lib.hid hrows
    have HV : Hid (reachV R s = itR R m (imgV R s)) := Lib.hid (by unfold reachV; rw [e1, if_pos h0])
    rw [h0] at HC
    have HI := Lib.hid (image_any R A m c s w hs hR hw hm64 hT)
    have HIM := Lib.hid (fun (x : Nat) (W : World) (hx : x < 18446744073709551616) (hb : Below w.heap.size w W) => image_any R A m c x W hx ((hR.below hb).more hb.size) hw hm64 (hT.below hb))
    have HX0 := Lib.hid (imgV_in hrows s)
    clear h0 hw e1 hR hT hrows hs
    go_enter Tryd.func95, Tryd.ntmps95
    go_wp2_with (first | (go_at_call 98; refine (HC.out).mono ?_; rintro e w' ⟨rfl, rfl⟩) | (go_at_call 103; refine (HI.out).mono ?_; rintro e w1 ⟨rfl, hb1⟩))
    go_loopw [5] (fun sv wr => ∃ x : Nat, sv = .int .u64 (x : Int) ∧ Hid (x < 2 ^ m) ∧ Hid (itR R m x = reachV R s) ∧ Hid (Below w.heap.size w wr)) (fun sv _ => 64 - (mem (intOf sv).toNat).length)
    case atStart => exact ⟨imgV R s, rfl, HX0, Lib.hid HV.out.symm, Lib.hid hb1⟩
    case round =>
      clear hb1
      obtain ⟨x, rfl, HX, HL, HB⟩ := hrel
      have HI2 := Lib.hid (HIM.out x wr (pow64 hm64 HX.out) HB.out)
      have hor : bits .or .u64 (x : Int) (imgV R x : Int) = (stepR R x : Int) := u64_or_nat _ _ (pow64 hm64 HX.out) (pow64 hm64 (imgV_in HROWS.out x))
      by_cases hf : stepR R x = x
      · have HE : Hid (x = reachV R s) := Lib.hid (by rw [← HL.out]; exact (itR_fix R x hf m).symm)
        have heq : ((stepR R x : Int) == (x : Int)) = true := by rw [hf]; simp
        clear hf
        go_wp2_with (first | (go_at_call 103; refine (HI2.out).mono ?_; rintro e w1 ⟨rfl, hb1⟩))
        have HB1 := Lib.hid (HB.out.trans (hb1.mono HB.out.size))
        clear hb1
        go_ret
        exact ⟨ret_u64 (by rw [← HE.out]), HB1.out⟩
      · have HM := Lib.hid (step_more hm64 HROWS.out HX.out hf)
        have heq : ((stepR R x : Int) == (x : Int)) = false := by rw [beq_eq_false_iff_ne]; omega
        have HX2 := Lib.hid (stepR_in HROWS.out HX.out)
        have HL2 : Hid (itR R m (stepR R x) = reachV R s) := Lib.hid ((lim_step hm64 HROWS.out HX.out).trans HL.out)
        clear hf
        go_wp2_with (first | (go_at_call 103; refine (HI2.out).mono ?_; rintro e w1 ⟨rfl, hb1⟩; have HB1 := Lib.hid (HB.out.trans (hb1.mono HB.out.size)); clear hb1))
        go_roundw
        case rel => exact ⟨stepR R x, rfl, HX2, HL2, HB1⟩
        case measure => have := HM.out; simp [intOf]; omega
  · have HV : Hid (reachV R s = 0) := Lib.hid (by unfold reachV; rw [e1, if_neg h0])
    rw [decide_eq_false h0] at HC
    clear h0 hw e1 hR hT hs
    go_enter Tryd.func95, Tryd.ntmps95
    go_wp2_with (go_at_call 98; refine (HC.out).mono ?_; rintro e w' ⟨rfl, rfl⟩)
    go_ret
    exact ⟨ret_u64 (by rw [HV.out]; rfl), Below.refl _ _⟩
end Go.Proofs.YtjpmhbnikoggaaaDoor
/- Contracts of layer 2: the converse by the reference. -/
namespace Go.Proofs.YtjpmhbnikoggaaaDoor
open Go.RowKit Go.Proofs.Ws
/-- the points below n that lead to v -/
def colU (R : List Nat) (v n : Nat) : Nat := (List.range n).foldl (fun a k => if (R.getD k 0).testBit v then a ||| p2 k else a) 0
theorem colU_succ (R : List Nat) (v n : Nat) : colU R v (n + 1) = if (R.getD n 0).testBit v then colU R v n ||| p2 n else colU R v n := by
  unfold colU; rw [List.range_succ, List.foldl_append]; rfl
theorem colU_lt (R : List Nat) (v : Nat) : ∀ n, n ≤ 64 → colU R v n < 18446744073709551616
  | 0, _ => by show 0 < 18446744073709551616; decide
  | n + 1, h => by
    rw [colU_succ]
    split
    · exact (or_pow _ n (colU_lt R v n (by omega)) (by omega)).2
    · exact colU_lt R v n (by omega)
def convV (R : List Nat) : List Nat := (List.range R.length).map (fun v => colU R v R.length)
end Go.Proofs.YtjpmhbnikoggaaaDoor
/- Contracts of layer 2: the converse by the program. -/
namespace Go.Proofs.YtjpmhbnikoggaaaDoor
open Go.RowKit Go.Shelf Go.Proofs.Ws
attribute [local go_sem] Oper.semAt_some
def mark (D : Nat) : Deferred := { target := .collected D, args := #[] }
def MarksOK (B : Nat) (Ds : List Nat) (w : World) : Prop := Ds.Nodup ∧ ∀ D ∈ Ds, B ≤ D ∧ w.heap[D]? = some (.deferred (some []))
theorem putObj_ne (w : World) (D k : Nat) (o : Obj) (h : k ≠ D) : (w.putObj D o).heap[k]? = w.heap[k]? := by
  simp [World.putObj, Ne.symm h]
theorem leaves_marks {F : Fence} {n : Nat} {P : Program} {fn : Func} {tmps : Array Value} {R : Ending → World → Prop} (B : Nat) : ∀ (Ds : List Nat) (w : World), MarksOK B Ds w →
    (∀ w', Below B w w' → (∀ (g : Nat) (o : Obj), w.heap[g]? = some o → o.isCells = true → w'.heap[g]? = some o) → LeavesIn F n P fn tmps R [] .returning w') → LeavesInM F n P fn tmps R (Ds.map mark) .returning w
  | [], w, _, h => h w (Below.refl _ _) (fun _ _ hg _ => hg)
  | D :: Ds, w, hM, h => by
    have hD := (hM.2 D (by simp))
    have hnd := List.nodup_cons.1 hM.1
    refine ⟨by simp, .inl ⟨D, _, rfl, run_takeDeferred hD.2, ?_⟩⟩
    have hb : Below B w (w.putObj D (.deferred none)) := ⟨rfl, rfl, rfl, by simp [World.putObj], fun k hk => putObj_ne _ _ _ _ (by have := hD.1; omega)⟩
    refine leaves_marks B Ds _ ⟨hnd.2, fun D' hD' => ⟨(hM.2 D' (by simp [hD'])).1, ?_⟩⟩ ?_
    · rw [putObj_ne _ _ _ _ (fun e => hnd.1 (by rw [← e]; exact hD'))]; exact (hM.2 D' (by simp [hD'])).2
    · intro w' hb' hk'
      refine h w' (hb.trans hb') (fun g o hg ho => hk' g o ?_ ho)
      rw [putObj_ne _ _ _ _ (fun e => by subst e; rw [hD.2] at hg; cases hg; cases ho)]; exact hg
theorem HoldsU.kept {W W' : World} {row : Option Nat} {g : Nat} {l : List Nat} (h : HoldsU W g l) (hg : W.grownBy W' row) (hr : ∀ r, row = some r → ∃ o : Obj, W.heap[r]? = some o ∧ o.isCells = false) : HoldsU W' g l :=
  (hg.block g h.lt (fun e => by
    obtain ⟨o, ho, hc⟩ := hr _ e.symm
    unfold HoldsU at h
    rw [h] at ho
    cases ho
    cases hc)).trans h
theorem col_or (R : List Nat) (v k x : Nat) (hx : R.getD k 0 = x) (hb : x.testBit v = true) (b : Bool) : (if b then colU R v (k + 1) else colU R v k) ||| p2 k = colU R v (k + 1) := by
  have e : colU R v (k + 1) = colU R v k ||| p2 k := by rw [colU_succ, hx, if_pos hb]
  cases b
  · simp [e]
  · rw [if_pos rfl, e, Nat.or_assoc, Nat.or_self]
set_option maxRecDepth 100000 in
set_option maxHeartbeats 4000000 in
theorem converse_any (R : List Nat) (A : Option Addr) (m c : Nat) (w : World) (hR : Reads w w.heap.size 1 A m (us R)) (hw : Words R) (hm : m ≤ maxLen) (hT : Tab w) :
    Calls Tryd.prog 94 #[.slice A m c] w fun e w' => (relErr R.length R = 0 ∧ GivesR (convV R) w e w') ∨ (relErr R.length R ≠ 0 ∧ GivesE (relErr R.length R) w e w') := by
  have e1 := hR.word_len
  have H := Lib.hid (check_any m R A m c _ w hR hw hm)
  have HR := Lib.hid hR
  rw [e1]
  by_cases h0 : relErr m R = 0
  · have hm64 := relErr_zero h0
    rw [h0] at H
    have HV : Hid (convV R = (List.range m).map (fun v => colU R v m)) := Lib.hid (by unfold convV; rw [e1])
    have HW := Lib.hid hw
    have H0 := Lib.hid h0
    have HT := Lib.hid hT
    have HROWS := Lib.hid (relErr_rows h0)
    have hmk := fun W => makeU W m (by omega)
    clear h0 hR hw e1 hT
    refine (callsIn_wide (n := 6)).1 ?_
    refine callsIn_of_wp_marks Tryd.func94 rfl trivial ?_ rfl
    simp only [Tryd.ntmps94, List.size_toArray, List.length_cons, List.length_nil, Nat.reduceAdd, Nat.reduceSub, Array.replicate_succ, Array.replicate_zero, List.push_toArray, List.append_toArray, List.nil_append, List.cons_append]
    gi_wp2_with (first | (refine ⟨trivial, ?_⟩; gi_at_call 101; refine (callsIn_wide.2 (H.out)).mono ?_; rintro e w' ⟨rfl, rfl⟩))
    have b0 := cell_new_l (w.alloc (.cells (us (List.replicate m 0)).toArray 31)) (.slice (some ⟨w.heap.size, 0, none⟩) m m) 22
    rw [World.size_alloc] at b0
    have HH := Lib.hid ((HoldsU.made w (List.replicate m 0)).alloc (.cells #[.slice (some ⟨w.heap.size, 0, none⟩) m m] 22))
    have HB := Lib.hid (((Below.refl w.heap.size w).alloc (Nat.le_refl _) (.cells (us (List.replicate m 0)).toArray 31)).alloc (by simp) (.cells #[.slice (some ⟨w.heap.size, 0, none⟩) m m] 22))
    have hb0 := b0.1
    generalize (w.alloc (.cells (us (List.replicate m 0)).toArray 31)).alloc (.cells #[.slice (some ⟨w.heap.size, 0, none⟩) m m] 22) = wx at *
    clear b0 hmk
    refine wpIn_loop (fun a wr => ∃ (k : Nat) (Ds : List Nat) (u6 u7 u22 u23 u24 u25 u26 u27 u37 : Value), k ≤ m ∧ a = { tmps := #[.slice A m c, undef, .slice none 0 0, .int .i64 0, .int .i64 0, .pointer (some ⟨w.heap.size + 1, 0, none⟩), u6, u7, undef, .slice A m c, .int .i64 m, .slice A m c, .int .i64 0, .int .i64 0, .bool false, undef, .slice A m c, .int .i64 m, .slice (some ⟨w.heap.size, 0, none⟩) m m, .slice A m c, .int .i64 m, .int .i64 (k : Int), u22, u23, u24, u25, u26, u27, undef, undef, undef, undef, undef, undef, undef, undef, undef, u37, undef], defers := Ds.map mark } ∧ Hid (MarksOK w.heap.size Ds wr) ∧ Hid (HoldsU wr w.heap.size (mixL (fun _ => false) (fun v => colU R v (k + 1)) (fun v => colU R v k) m)) ∧
          Hid (wr.cell? ⟨w.heap.size + 1, 0, none⟩ = some (.slice (some ⟨w.heap.size, 0, none⟩) m m)) ∧ Hid (Below w.heap.size w wr))
      (fun a _ => m - (intOf (a.tmps.getD 21 undef)).toNat) ?start ?round
    case start => exact ⟨0, [], undef, undef, undef, undef, undef, undef, undef, undef, undef, by omega, rfl, Lib.hid ⟨List.nodup_nil, fun _ h => by cases h⟩, by rw [mixL_start (fun _ => false) (fun v => colU R v (0 + 1)) (fun v => colU R v 0) m (fun _ => rfl) (fun _ _ => rfl)]; exact HH, Lib.hid hb0, HB⟩
    case round =>
      clear HH HB hb0
      rintro a wr ⟨k, Ds, u6, u7, u22, u23, u24, u25, u26, u27, u37, hk, rfl, HM, HH, HC, HB⟩
      by_cases hlt : k < m
      · obtain ⟨x, hx⟩ : ∃ x, R.getD k 0 = x := ⟨_, rfl⟩
        have hxw : x < 18446744073709551616 := by rw [← hx]; exact words_getD HW.out k
        obtain ⟨ad, rfl, hb, hc⟩ := (HR.out.below HB.out).word_k hlt
        rw [hx] at hc
        gi_wp2_with (first | (refine ⟨trivial, ?_⟩; gi_at_call 102; refine (callsIn_wide.2 (points_any x _)).mono ?_; rintro e w' ⟨rfl, rfl⟩))
        have HX := Lib.hid hx
        have HJ : Hid (∀ j ∈ mem x, j < m ∧ x.testBit j = true) := Lib.hid (fun j hj => by
          have h1 := (mem_iff _ _).1 hj
          refine ⟨?_, h1.2⟩
          apply Classical.byContradiction
          intro hn
          have hxm : x < 2 ^ m := by
            have hl := (HR.out).word_len
            rw [← hx, List.getD_eq_getElem?_getD, List.getElem?_eq_getElem (by omega)]
            exact HROWS.out _ (List.getElem_mem _)
          have : x < 2 ^ j := Nat.lt_of_lt_of_le hxm (Nat.pow_le_pow_right (by decide) (by omega))
          rw [Nat.testBit_lt_two_pow this] at h1
          exact absurd h1.2 (by simp))
        have hsz := HB.out.size
        have hgl := HH.out.lt
        have hwg : w.heap.size + 1 < wr.heap.size := by
          rcases Nat.lt_or_ge (w.heap.size + 1) wr.heap.size with h' | h'
          · exact h'
          · have := HC.out; simp [World.cell?, Array.getElem?_eq_none h'] at this
        have b1 := cell_new_l wr (.int .i64 (k : Int)) 3
        have b2 := cell_new_l (wr.alloc (.cells #[.int .i64 (k : Int)] 3)) (.int .u64 (x : Int)) 31
        simp only [World.size_alloc] at b2
        have hBW : Below w.heap.size w ((wr.alloc (.cells #[.int .i64 (k : Int)] 3)).alloc (.cells #[.int .u64 (x : Int)] 31)) := (HB.out.alloc hsz _).alloc (by simp; omega) _
        have hsW : ((wr.alloc (.cells #[.int .i64 (k : Int)] 3)).alloc (.cells #[.int .u64 (x : Int)] 31)).heap.size = wr.heap.size + 2 := by simp
        have c1 := cell_alloc_l (.cells #[.int .u64 (x : Int)] 31) (cell_alloc_l (.cells #[.int .i64 (k : Int)] 3) HC.out)
        have c2 := cell_alloc_l (.cells #[.int .u64 (x : Int)] 31) b1.1
        have c3 := b2.1
        have hh0 := (HH.out.alloc (.cells #[.int .i64 (k : Int)] 3)).alloc (.cells #[.int .u64 (x : Int)] 31)
        have hm0 : ∀ D ∈ Ds, D < wr.heap.size ∧ ((wr.alloc (.cells #[.int .i64 (k : Int)] 3)).alloc (.cells #[.int .u64 (x : Int)] 31)).heap[D]? = some (.deferred (some [])) := fun D hD => by
          have h1 := (HM.out.2 D hD).2
          have hl : D < wr.heap.size := (Array.getElem?_eq_some_iff.1 h1).1
          exact ⟨hl, (Below.heap_alloc _ _ D (by simp; omega)).trans ((Below.heap_alloc _ _ D hl).trans h1)⟩
        generalize (wr.alloc (.cells #[.int .i64 (k : Int)] 3)).alloc (.cells #[.int .u64 (x : Int)] 31) = W0 at *
        clear b1 b2 HC HH
        refine wpIn_rangeFunc_ownF rfl (by omega) (gf := 106) (lb := #[.pointer (some ⟨wr.heap.size + 1, 0, none⟩)]) rfl trivial (enters_of Tryd.func106 (by kernel_rfl) rfl)
          (points_stops 5 (by omega) (wr.heap.size + 1) w.heap.size x W0 hxw (by omega) HT.out.2 c3 (HT.out.below hBW)) belowK_t (belowK_b (by omega)) (Below.refl _ _) (fun _ => rfl)
          (fun pre W => (W.cell? ⟨w.heap.size + 1, 0, none⟩ = some (.slice (some ⟨w.heap.size, 0, none⟩) m m) ∧ W.cell? ⟨wr.heap.size, 0, none⟩ = some (.int .i64 (k : Int)) ∧
            HoldsU W w.heap.size (mixL (fun j => decide (j ∈ vals pre)) (fun v => colU R v (k + 1)) (fun v => colU R v k) m) ∧ (∀ D ∈ Ds, W.heap[D]? = some (.deferred (some [])))) ∧ Below w.heap.size w W)
          (fun _ _ _ => False)
          (OwnFrom.and (fun s A B row hs hg hr => ⟨cell_kept hs.1 hg (fun r e => (hr r e).2), cell_kept hs.2.1 hg (fun r e => (hr r e).2), hs.2.2.1.kept hg (fun r e => (hr r e).2),
            fun D hD => (hg.block D (Array.getElem?_eq_some_iff.1 (hs.2.2.2 D hD)).1 (fun e => by have h1 := (hr _ e.symm).1; have h2 := (hm0 D hD).1; omega)).trans (hs.2.2.2 D hD)⟩) (ownFrom_below (Nat.le_refl _) (by omega)))
          (fun _ _ _ _ _ hs _ _ => hs)
          ⟨⟨c1, c2, by rw [mixL_congr (p' := fun _ => false) (f' := fun v => colU R v (k + 1)) (g' := fun v => colU R v k) (fun v _ => by simp [vals_nil])]; exact hh0, fun D hD => (hm0 D hD).2⟩, hBW⟩
          (fun j => { tmps := #[.slice (some ad) m c, undef, .slice none 0 0, .int .i64 0, .int .i64 0, .pointer (some ⟨w.heap.size + 1, 0, none⟩), .pointer (some ⟨wr.heap.size, 0, none⟩), .int .u64 (x : Int), .int .i64 (j.1 : Int), .slice (some ad) m c, .int .i64 m, .slice (some ad) m c, .int .i64 0, .int .i64 0, .bool false, undef, .slice (some ad) m c, .int .i64 m, .slice (some ⟨w.heap.size, 0, none⟩) m m, .slice (some ad) m c, .int .i64 m, .int .i64 (k : Int), .bool true, .int .i64 (k : Int), .pointer (some (ad.add k)), .int .u64 (x : Int), .int .u64 (x : Int), .func (.func 106) #[] #[.pointer (some ⟨wr.heap.size + 1, 0, none⟩)], .int .i64 (j.1 : Int), undef, undef, undef, undef, undef, undef, undef, undef, u37, undef], defers := [] }) ?assign ?body ?done ?stop
        case assign =>
          intro l j W K hK
          gi_wp2
          exact hK
        case body =>
          rintro l pre j W ⟨⟨hc1, hc2, hh, hmk⟩, hB⟩ _
          have hjm := (HJ.out j.1 j.2).1
          have hmx : Tryd.prog.follows .mixedOrders = true := by kernel_rfl
          obtain ⟨v0, hv0⟩ : ∃ v0, v0 = (mixL (fun i => decide (i ∈ vals pre)) (fun v => colU R v (k + 1)) (fun v => colU R v k) m).getD j.1 0 := ⟨_, rfl⟩
          have hcz := hh.cell j.1 (by rw [mixL_length]; exact hjm)
          rw [← hv0] at hcz
          have hfz := hh.free j.1
          have hv1 : v0 ||| p2 k = colU R j.1 (k + 1) := by rw [hv0, mixL_getD _ _ _ _ _ hjm]; exact col_or R j.1 k x HX.out (HJ.out j.1 j.2).2 _
          have hvl : v0 < 18446744073709551616 := by rw [hv0, mixL_getD _ _ _ _ _ hjm]; split <;> exact colU_lt R _ _ (by omega)
          have hor : bits .or .u64 (v0 : Int) (p2 k : Int) = (colU R j.1 (k + 1) : Int) := by rw [(or_pow v0 k hvl (by omega)).1, hv1]
          have HP := Lib.hid (hh.put j.1 (colU R j.1 (k + 1)))
          rw [mixL_set (fun i => decide (i ∈ vals pre)) (fun i => decide (i ∈ vals (pre ++ [j]))) _ _ m j.1 _ (by simp [vals_snoc]) (fun i hi => by simp [vals_snoc, hi])] at HP
          have HB := Lib.hid hB
          have HMK := Lib.hid hmk
          have HDG : Hid (∀ D ∈ Ds, D ≠ w.heap.size) := Lib.hid (fun D hD e => by
            have h1 := hmk D hD
            unfold HoldsU at hh
            rw [e, hh] at h1
            cases h1)
          generalize colU R j.1 (k + 1) = v1 at *
          clear hv0 hv1 hvl hh hB hmk
          gi_wp2
          gi_region_with_o (refine ⟨trivial, ?_⟩; gi_at_call 99; refine (CallsIn.inRound l (callsIn_wide.2 (relOnly_any k _ (by omega)))).mono ?_; rintro e w' ⟨rfl, rfl⟩)
          all_goals gi_wp2
          all_goals (try go_bits)
          all_goals exact ⟨(KeepsOthers.setCell _ _ _).trans (KeepsOthers.drew _), ((Below.refl w.heap.size W).setCell (p := ⟨w.heap.size, j.1, none⟩) (Nat.le_refl _) _).drew, ⟨⟨(World.cell?_setCell_other W ⟨w.heap.size, j.1, none⟩ ⟨w.heap.size + 1, 0, none⟩ _ (by simp)).trans hc1, (World.cell?_setCell_other W ⟨w.heap.size, j.1, none⟩ ⟨wr.heap.size, 0, none⟩ _ (by intro e; injection e with e1 e2; omega)).trans hc2, HP.out, fun D hD => (Below.heap_setCell W ⟨w.heap.size, j.1, none⟩ _ D (HDG.out D hD)).trans (HMK.out D hD)⟩, (HB.out.setCell (p := ⟨w.heap.size, j.1, none⟩) (Nat.le_refl _) _).drew⟩⟩
        case done =>
          rintro D ys W hD hys ⟨⟨hc1, hc2, hh, hmk⟩, hB⟩ hK
          have HMM : Hid (MarksOK w.heap.size (D :: Ds) W) := Lib.hid ⟨List.nodup_cons.2 ⟨fun h => by have := (hm0 D h).1; omega, HM.out.1⟩, fun D' hD' => by
            rcases List.mem_cons.1 hD' with rfl | h
            · exact ⟨by omega, hK⟩
            · exact ⟨(HM.out.2 D' h).1, hmk D' h⟩⟩
          have HH : Hid (HoldsU W w.heap.size (mixL (fun _ => false) (fun v => colU R v (k + 1 + 1)) (fun v => colU R v (k + 1)) m)) := Lib.hid (by
            rw [mixL_congr (p' := fun j => decide (j ∈ vals ys)) (f' := fun v => colU R v (k + 1)) (g' := fun v => colU R v k) (fun v hv => by
              rw [if_neg (by simp), hys]
              by_cases hb : x.testBit v = true
              · rw [if_pos (by simp only [decide_eq_true_eq]; exact (mem_iff _ _).2 ⟨by omega, hb⟩)]
              · rw [if_neg (by simp only [decide_eq_true_eq]; exact fun h => hb ((mem_iff _ _).1 h).2), colU_succ, HX.out, if_neg hb])]
            exact hh)
          have HC := Lib.hid hc1
          have HB' := Lib.hid hB
          clear hc1 hc2 hh hmk hB hK
          gi_wp2
          refine ⟨⟨k + 1, D :: Ds, .pointer (some ⟨wr.heap.size, 0, none⟩), .int .u64 (x : Int), .bool true, .int .i64 (k : Int), .pointer (some (ad.add k)), .int .u64 (x : Int), .int .u64 (x : Int), .func (.func 106) #[] #[.pointer (some ⟨wr.heap.size + 1, 0, none⟩)], .int .i64 ((k : Int) + 1), by omega, ?_, HMM, HH, HC, HB'⟩, ?_⟩
          · rfl
          · simp [intOf]; omega
        case stop =>
          rintro D c pre W _ _ h _
          exact h.elim
      · have hkm : k = m := by omega
        subst hkm
        have hcc := HC.out
        gi_wp2
        refine leaves_marks w.heap.size Ds _ HM.out (fun w' hb' hk' => ?_)
        have HE : Hid (mixL (fun _ => false) (fun v => colU R v (k + 1)) (fun v => colU R v k) k = convV R) := Lib.hid (by rw [HV.out]; unfold mixL; simp)
        have hh : HoldsU w' w.heap.size (convV R) := by rw [← HE.out]; exact hk' _ _ HH.out rfl
        refine ⟨_, results_tmp2 rfl _ _ _, Or.inl ⟨H0.out, some ⟨w.heap.size, 0, none⟩, k, ?_, ?_, HB.out.trans hb'⟩⟩
        · rw [HV.out, List.length_map, List.length_range]; rfl
        · exact hh.reads
  · have HN := Lib.hid h0
    have hne : (relErr m R != 0) = true := by simp [h0]
    clear hR hw e1 hT
    generalize relErr m R = x at *
    clear h0
    go_enter Tryd.func94, Tryd.ntmps94
    go_wp2_with fail
    refine (H.out).mono ?_
    rintro e w1 ⟨rfl, rfl⟩
    go_wp2
    go_ret2
    exact Or.inr ⟨HN.out, rfl, Below.refl _ _⟩
end Go.Proofs.YtjpmhbnikoggaaaDoor
/- Contracts of layer 2: the symmetric closure by the reference. -/
namespace Go.Proofs.YtjpmhbnikoggaaaDoor
open Go.RowKit Go.Proofs.Ws
theorem colU_in (R : List Nat) (v : Nat) : ∀ n m, n ≤ m → colU R v n < 2 ^ m
  | 0, m, _ => by show 0 < 2 ^ m; exact Nat.two_pow_pos m
  | n + 1, m, h => by
    rw [colU_succ]
    split
    · exact Nat.or_lt_two_pow (colU_in R v n m (by omega)) (Nat.pow_lt_pow_right (by decide) (by omega))
    · exact colU_in R v n m (by omega)
theorem conv_len (R : List Nat) : (convV R).length = R.length := by simp [convV]
theorem conv_in (R : List Nat) : ∀ x ∈ convV R, x < 2 ^ R.length := fun x hx => by
  unfold convV at hx
  obtain ⟨v, _, rfl⟩ := List.mem_map.1 hx
  exact colU_in R v R.length R.length (Nat.le_refl _)
theorem relErr_ok {l : List Nat} (h : l.length ≤ 64) (hx : ∀ x ∈ l, x < 2 ^ l.length) : relErr l.length l = 0 := by
  unfold relErr
  rw [if_neg (by omega), if_neg (by omega), if_pos]
  unfold inN
  rw [List.all_eq_true]
  intro x hm
  simpa using hx x hm
end Go.Proofs.YtjpmhbnikoggaaaDoor
/- Contracts of layer 2: the steps of the closures that write one row: reflexive, transitive. -/
namespace Go.Proofs.YtjpmhbnikoggaaaDoor
open Go.RowKit Go.Proofs.Ws
/-- whatever lay below B, block g apart, lies as it lay -/
structure BelowBut (B g : Nat) (w w' : World) : Prop where
  os : w'.os = w.os
  tape : w'.tape = w.tape
  output : w'.output = w.output
  size : w.heap.size ≤ w'.heap.size
  block : ∀ k, k < B → k ≠ g → w'.heap[k]? = w.heap[k]?
theorem BelowBut.refl (B g : Nat) (w : World) : BelowBut B g w w := ⟨rfl, rfl, rfl, Nat.le_refl _, fun _ _ _ => rfl⟩
theorem BelowBut.of {B : Nat} {w w' : World} (h : Below B w w') (g : Nat) : BelowBut B g w w' := ⟨h.os, h.tape, h.output, h.size, fun k hk _ => h.block k hk⟩
theorem BelowBut.trans {B g : Nat} {a b c : World} (h : BelowBut B g a b) (k : BelowBut B g b c) : BelowBut B g a c :=
  ⟨k.os.trans h.os, k.tape.trans h.tape, k.output.trans h.output, Nat.le_trans h.size k.size, fun j hj hg => (k.block j hj hg).trans (h.block j hj hg)⟩
theorem BelowBut.setCell {B g : Nat} {a w : World} (h : BelowBut B g a w) (k : Nat) (u : Value) : BelowBut B g a (w.setCell ⟨g, k, none⟩ u) := by
  have e : BelowBut B g w (w.setCell ⟨g, k, none⟩ u) := by
    have b := (Below.refl 0 w).setCell (p := ⟨g, k, none⟩) (Nat.zero_le _) u
    exact ⟨b.os, b.tape, b.output, b.size, fun j _ hg => Below.heap_setCell w ⟨g, k, none⟩ u j hg⟩
  exact h.trans e
theorem BelowBut.drew {B g : Nat} {a w : World} (h : BelowBut B g a w) : BelowBut B g a w.drew := ⟨h.os, h.tape, h.output, h.size, h.block⟩
theorem BelowBut.mono {B B' g : Nat} {w w' : World} (h : BelowBut B g w w') (hB : B' ≤ B) : BelowBut B' g w w' := ⟨h.os, h.tape, h.output, h.size, fun k hk hg => h.block k (Nat.lt_of_lt_of_le hk hB) hg⟩
/-- what lay below g too lies as it lay -/
theorem BelowBut.below {B g : Nat} {w w' : World} (h : BelowBut B g w w') (hg : B ≤ g) : Below B w w' := ⟨h.os, h.tape, h.output, h.size, fun k hk => h.block k hk (by omega)⟩
/-- block g holds these words, and maybe more behind them -/
def HoldsP (w : World) (g : Nat) (l : List Nat) : Prop := ∃ pad : List Value, w.heap[g]? = some (.cells (us l ++ pad).toArray 31 (0, 0))
theorem HoldsU.pad {w : World} {g : Nat} {l : List Nat} (h : HoldsU w g l) : HoldsP w g l := ⟨[], by rw [List.append_nil]; exact h⟩
theorem HoldsP.cell {w : World} {g : Nat} {l : List Nat} (h : HoldsP w g l) (k : Nat) (hk : k < l.length) : w.cell? ⟨g, k, none⟩ = some (.int .u64 ((l.getD k 0 : Nat) : Int)) := by
  obtain ⟨pad, h⟩ := h
  rw [Lib.cell_of_heap h, List.getElem?_toArray, List.getElem?_append_left (by rw [us_length]; exact hk)]
  unfold us
  rw [List.getElem?_map, List.getElem?_eq_getElem hk, List.getD_eq_getElem?_getD, List.getElem?_eq_getElem hk]
  rfl
theorem HoldsP.free {w : World} {g : Nat} {l : List Nat} (h : HoldsP w g l) (k : Nat) : w.frozen? ⟨g, k, none⟩ = false := by
  obtain ⟨pad, h⟩ := h
  exact Lib.frozen_of_heap h k
theorem HoldsP.put {w : World} {g : Nat} {l : List Nat} (h : HoldsP w g l) (k x : Nat) : HoldsP (w.setCell ⟨g, k, none⟩ (.int .u64 (x : Int))) g (l.set k x) := by
  obtain ⟨pad, h⟩ := h
  by_cases hk : k < l.length
  · refine ⟨pad, ?_⟩
    have e : (us (l.set k x) ++ pad).toArray = (us l ++ pad).toArray.setIfInBounds k (.int .u64 (x : Int)) := by
      unfold us
      rw [List.map_set]
      simp [hk]
    rw [e]
    simp [World.setCell, Array.getElem?_modify, h]
  · refine ⟨pad.set (k - l.length) (.int .u64 (x : Int)), ?_⟩
    have e : (us (l.set k x) ++ pad.set (k - l.length) (.int .u64 (x : Int))).toArray = (us l ++ pad).toArray.setIfInBounds k (.int .u64 (x : Int)) := by
      rw [List.set_eq_of_length_le (by omega)]
      simp [List.set_append, us_length, hk]
    rw [e]
    simp [World.setCell, Array.getElem?_modify, h]
theorem HoldsP.lt {w : World} {g : Nat} {l : List Nat} (h : HoldsP w g l) : g < w.heap.size := by
  obtain ⟨pad, h⟩ := h
  exact (Array.getElem?_eq_some_iff.1 h).1
theorem HoldsP.below {w w' : World} {B g : Nat} {l : List Nat} (h : HoldsP w g l) (hb : Below B w w') (hg : g < B) : HoldsP w' g l := by
  obtain ⟨pad, h⟩ := h
  exact ⟨pad, (hb.block g hg).trans h⟩
theorem HoldsP.kept {W W' : World} {row : Option Nat} {g : Nat} {l : List Nat} (h : HoldsP W g l) (hg : W.grownBy W' row) (hr : ∀ r, row = some r → ∃ o : Obj, W.heap[r]? = some o ∧ o.isCells = false) : HoldsP W' g l := by
  have hlt := h.lt
  obtain ⟨pad, h⟩ := h
  exact ⟨pad, (hg.block g hlt (fun e => by
    obtain ⟨o, ho, hc⟩ := hr _ e.symm
    rw [h] at ho
    cases ho
    cases hc)).trans h⟩
theorem HoldsP.reads {w : World} {g : Nat} {l : List Nat} (h : HoldsP w g l) : Reads w w.heap.size 1 (some ⟨g, 0, none⟩) l.length (us l) := by
  refine ⟨by rw [us_length]; omega, fun _ => ⟨_, rfl, h.lt, fun j u hu => ?_⟩⟩
  rw [addr0]
  unfold us at hu
  rw [List.getElem?_map] at hu
  obtain ⟨k, hk, rfl⟩ := Option.map_eq_some_iff.1 hu
  have hj : j < l.length := by
    by_cases h' : j < l.length
    · exact h'
    · rw [List.getElem?_eq_none (by omega)] at hk; cases hk
  rw [h.cell j hj, List.getD_eq_getElem?_getD, hk]; rfl
end Go.Proofs.YtjpmhbnikoggaaaDoor
