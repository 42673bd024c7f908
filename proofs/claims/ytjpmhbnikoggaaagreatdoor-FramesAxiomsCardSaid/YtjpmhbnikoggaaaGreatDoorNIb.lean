/- Layer 6: texts joined: Ra Rb Rc Rd Re Rf Rg Rh Ri Rj Rk. -/
import Derived.Test.YtjpmhbnikoggaaaGreatDoorNIa
import Derived.RangeFuncNested
import Derived.RangeFuncBound
import Derived.RangeFuncCalls
import Derived.RangeFuncLeaves
import Derived.RangeFuncFrom
import Derived.Shelf.Abstract
import Derived.Shelf.RegionOpen
import Derived.OwnWalkIn
import Derived.TacticsInMore
import Derived.LoopNIn
import Derived.LoopIn
import Derived.Lib.Builder
import Derived.Deep.RegionWith
/- Contracts of layer 2's small functions: the check of a relation on both sides, the set of all points, the set of one point. -/
namespace Go.Proofs.YtjpmhbnikoggaaaGreatDoor
open Go.RowKit Go.Proofs.Ws
theorem quiet_same {P : Program} {f : FuncId} {args : Array Value} {X : Nat → World} {n : Nat} {v : Value} (h : Calls P f args (X n) fun e w' => e = .returned v ∧ X n = w') :
    Calls P f args (X n) fun e w'' => e = .returned v ∧ ∃ m, w'' = X m := h.mono fun _ _ ⟨he, hm⟩ => ⟨he, n, hm.symm⟩
/-- a list of words in cells -/
def us (l : List Nat) : List Value := l.map (fun k : Nat => Value.int .u64 (k : Int))
theorem us_length (l : List Nat) : (us l).length = l.length := by simp [us]
/-- each is a word -/
def Words (l : List Nat) : Prop := ∀ x ∈ l, x < 18446744073709551616
theorem Reads.word_at {w : World} {B n : Nat} {A : Option Addr} {l : List Nat} (h : Reads w B 1 A n (us l)) {k : Nat} (hk : k < n) :
    ∃ ad x, A = some ad ∧ ad.block < B ∧ k < l.length ∧ l.getD k 0 = x ∧ x ∈ l ∧ l.drop k = x :: l.drop (k + 1) ∧ w.cell? (ad.add k) = some (.int .u64 (x : Int)) := by
  obtain ⟨ad, u, hA, hb, hu, hc⟩ := h.at_ hk
  unfold us at hu
  rw [List.getElem?_map] at hu
  have hl : k < l.length := by have := h.1; rw [us_length] at this; omega
  rw [List.getElem?_eq_getElem hl] at hu
  simp at hu
  subst hu
  exact ⟨ad, l[k], hA, hb, hl, by rw [List.getD_eq_getElem?_getD, List.getElem?_eq_getElem hl]; rfl, List.getElem_mem hl, List.drop_eq_getElem_cons hl, hc⟩
theorem Reads.word_len {w : World} {B n : Nat} {A : Option Addr} {l : List Nat} (h : Reads w B 1 A n (us l)) : l.length = n := by have := h.1; rw [us_length] at this; omega
/-- no row leads out of n points -/
def inN (n : Nat) (l : List Nat) : Bool := l.all (fun x => decide (x < 2 ^ n))
/-- the first error of a relation over n points -/
def relErr (n : Int) (l : List Nat) : Int := if n < 0 ∨ 64 < n then 2 else if (l.length : Int) ≠ n then 3 else if inN n.toNat l then 0 else 1
theorem relAll_any (n : Nat) (w : World) (h : n ≤ 64) :
    Calls Tryz.prog 78 #[.int .i64 n] w fun e w' => e = .returned (.int .u64 (allV n : Int)) ∧ w = w' := by
  have hv := wrap_allV n h
  go_enter Tryz.func78, Tryz.ntmps78
  go_wp2
  go_ret
  exact ⟨rfl, rfl⟩
theorem relOnly_any (n : Nat) (w : World) (h : n < 64) :
    Calls Tryz.prog 174 #[.int .i64 n] w fun e w' => e = .returned (.int .u64 (p2 n : Int)) ∧ w = w' := by
  go_enter Tryz.func174, Tryz.ntmps174
  go_wp2
  go_ret
  exact ⟨ret_u64 (wrap_pow n h), rfl⟩
theorem ref2All_any (n : Nat) (w : World) (h : n ≤ 64) :
    Calls Tryz.prog 109 #[.int .i64 n] w fun e w' => e = .returned (.int .u64 (allV n : Int)) ∧ w = w' := by
  have hv := wrap_allV n h
  by_cases h64 : n = 64
  · subst h64
    clear hv
    go_enter Tryz.func109, Tryz.ntmps109
    go_wp2
    go_ret
    exact ⟨ret_u64 (by decide), rfl⟩
  · go_enter Tryz.func109, Tryz.ntmps109
    go_wp2
    go_ret
    exact ⟨rfl, rfl⟩
set_option maxRecDepth 100000 in
set_option maxHeartbeats 1600000 in
theorem check_any (n : Int) (l : List Nat) (A : Option Addr) (m c B : Nat) (w : World) (hR : Reads w B 1 A m (us l)) (hw : Words l) (hm : m ≤ maxLen) :
    Calls Tryz.prog 36 #[.int .i64 n, .slice A m c] w fun e w' => e = .returned (.int .i64 (relErr n l)) ∧ w = w' := by
  unfold maxLen at hm
  have hlen := hR.word_len
  by_cases h0 : n < 0
  · have HV : Hid (relErr n l = 2) := Lib.hid (by unfold relErr; rw [if_pos (by omega)])
    clear hw
    go_enter Tryz.func36, Tryz.ntmps36
    go_wp2
    go_ret
    exact ⟨ret_i64 HV.out.symm, rfl⟩
  · by_cases h1 : 64 < n
    · have HV : Hid (relErr n l = 2) := Lib.hid (by unfold relErr; rw [if_pos (by omega)])
      clear hw
      go_enter Tryz.func36, Tryz.ntmps36
      go_wp2
      go_ret
      exact ⟨ret_i64 HV.out.symm, rfl⟩
    · by_cases h2 : (m : Int) = n
      · subst h2
        have HL := Lib.hid hlen
        have HW := Lib.hid hw
        have HA := Lib.hid (relAll_any m w (by omega))
        have HV : Hid (relErr m l = if inN m l then 0 else 1) := Lib.hid (by unfold relErr; rw [if_neg (by omega), if_neg (by omega)]; rfl)
        clear hlen hw h0
        go_enter Tryz.func36, Tryz.ntmps36
        go_wp2
        go_loop [19] (fun i => ∃ k : Nat, k ≤ m ∧ i = .int .i64 k ∧ Hid (inN m l = inN m (l.drop k))) (fun i => m - (intOf i).toNat)
        case atStart => exact ⟨0, Nat.zero_le _, rfl, Lib.hid rfl⟩
        case round =>
          obtain ⟨k, hk, rfl, HI⟩ := hrel
          by_cases hlt : k < m
          · obtain ⟨ad, x, rfl, hb, hkl, hx, hxm, hd, hc⟩ := hR.word_at hlt
            have hxw := HW.out x hxm
            have hout := outside_in x m hxw (by omega)
            have HD := Lib.hid hd
            clear hx hxm hd hkl
            by_cases hin : x < 2 ^ m
            · have ho : (bits .andNot .u64 (x : Int) (allV m : Int) != 0) = false := by rw [hout]; simp [hin]
              have HI2 : Hid (inN m l = inN m (l.drop (k + 1))) := Lib.hid (by rw [HI.out, HD.out, inN, List.all_cons, decide_eq_true hin, Bool.true_and]; rfl)
              clear hout hin
              go_wp2_with (go_at_call 78; refine (HA.out).mono ?_; rintro e w' ⟨rfl, rfl⟩)
              go_round
              case rel => exact ⟨k + 1, by omega, by go_num, HI2⟩
              case measure => simp [intOf]; omega
            · have ho : (bits .andNot .u64 (x : Int) (allV m : Int) != 0) = true := by rw [hout]; simp [hin]
              have HE : Hid (inN m l = false) := Lib.hid (by rw [HI.out, HD.out, inN, List.all_cons, decide_eq_false hin, Bool.false_and])
              clear hout hin
              go_wp2_with (go_at_call 78; refine (HA.out).mono ?_; rintro e w' ⟨rfl, rfl⟩)
              go_ret
              exact ⟨ret_i64 (by rw [HV.out, HE.out]; rfl), rfl⟩
          · have HE : Hid (inN m l = true) := Lib.hid (by rw [HI.out, List.drop_eq_nil_of_le (by have := HL.out; omega)]; rfl)
            go_wp2
            go_ret
            exact ⟨ret_i64 (by rw [HV.out, HE.out]; rfl), rfl⟩
      · have HV : Hid (relErr n l = 3) := Lib.hid (by unfold relErr; rw [if_neg (by omega), if_pos (by omega)])
        clear hw
        go_enter Tryz.func36, Tryz.ntmps36
        go_wp2
        go_ret
        exact ⟨ret_i64 HV.out.symm, rfl⟩
set_option maxRecDepth 100000 in
set_option maxHeartbeats 1600000 in
theorem ref2Check_any (n : Int) (l : List Nat) (A : Option Addr) (m c B : Nat) (w : World) (hR : Reads w B 1 A m (us l)) (hw : Words l) (hm : m ≤ maxLen) :
    Calls Tryz.prog 51 #[.int .i64 n, .slice A m c] w fun e w' => e = .returned (.int .i64 (relErr n l)) ∧ ∃ q, w' = w.drewN q := by
  unfold maxLen at hm
  have hlen := hR.word_len
  by_cases h0 : n < 0
  · have HV : Hid (relErr n l = 2) := Lib.hid (by unfold relErr; rw [if_pos (by omega)])
    clear hw
    go_enter Tryz.func51, Tryz.ntmps51
    go_wp2
    go_ret
    exact ⟨ret_i64 HV.out.symm, ⟨0, rfl⟩⟩
  · by_cases h1 : 64 < n
    · have HV : Hid (relErr n l = 2) := Lib.hid (by unfold relErr; rw [if_pos (by omega)])
      clear hw
      go_enter Tryz.func51, Tryz.ntmps51
      go_wp2
      go_ret
      exact ⟨ret_i64 HV.out.symm, ⟨0, rfl⟩⟩
    · by_cases h2 : (m : Int) = n
      · subst h2
        have HL := Lib.hid hlen
        have HW := Lib.hid hw
        have HA := Lib.hid (fun w => ref2All_any m w (by omega))
        have HV : Hid (relErr m l = if inN m l then 0 else 1) := Lib.hid (by unfold relErr; rw [if_neg (by omega), if_neg (by omega)]; rfl)
        clear hlen hw h0
        go_enter Tryz.func51, Tryz.ntmps51
        go_wp2
        go_loopw [5] (fun i wr => ∃ k q : Nat, k ≤ m ∧ i = .int .i64 k ∧ Hid (inN m l = inN m (l.drop k)) ∧ wr = w.drewN q) (fun i _ => m - (intOf i).toNat)
        case atStart => exact ⟨0, 0, Nat.zero_le _, rfl, Lib.hid rfl, rfl⟩
        case round =>
          obtain ⟨k, q, hk, rfl, HI, rfl⟩ := hrel
          by_cases hlt : k < m
          · obtain ⟨ad, x, rfl, hb, hkl, hx, hxm, hd, hc⟩ := hR.word_at hlt
            have hxw := HW.out x hxm
            have hout := outside_in x m hxw (by omega)
            have HD := Lib.hid hd
            clear hx hxm hd hkl
            by_cases hin : x < 2 ^ m
            · have ho : (bits .andNot .u64 (x : Int) (allV m : Int) != 0) = false := by rw [hout]; simp [hin]
              have HI2 : Hid (inN m l = inN m (l.drop (k + 1))) := Lib.hid (by rw [HI.out, HD.out, inN, List.all_cons, decide_eq_true hin, Bool.true_and]; rfl)
              clear hout hin
              go_wp2
              go_quiet (first | (go_at_call 109; exact quiet_same (HA.out _)))
              go_wp2
              go_roundw
              case rel => exact ⟨k + 1, q + nq, by omega, by go_num, HI2, by first | rfl | rw [World.drewN_drewN]⟩
              case measure => simp [intOf]; omega
            · have ho : (bits .andNot .u64 (x : Int) (allV m : Int) != 0) = true := by rw [hout]; simp [hin]
              have HE : Hid (inN m l = false) := Lib.hid (by rw [HI.out, HD.out, inN, List.all_cons, decide_eq_false hin, Bool.false_and])
              clear hout hin
              go_wp2
              go_quiet (first | (go_at_call 109; exact quiet_same (HA.out _)))
              go_wp2
              go_ret
              exact ⟨ret_i64 (by rw [HV.out, HE.out]; rfl), ⟨q + nq, by first | rfl | rw [World.drewN_drewN]⟩⟩
          · have HE : Hid (inN m l = true) := Lib.hid (by rw [HI.out, List.drop_eq_nil_of_le (by have := HL.out; omega)]; rfl)
            go_wp2
            go_ret
            exact ⟨ret_i64 (by rw [HV.out, HE.out]; rfl), ⟨_, rfl⟩⟩
      · have HV : Hid (relErr n l = 3) := Lib.hid (by unfold relErr; rw [if_neg (by omega), if_pos (by omega)])
        clear hw
        go_enter Tryz.func51, Tryz.ntmps51
        go_wp2
        go_ret
        exact ⟨ret_i64 HV.out.symm, ⟨0, rfl⟩⟩
theorem valid_any (l : List Nat) (A : Option Addr) (m c B : Nat) (w : World) (hR : Reads w B 1 A m (us l)) (hw : Words l) (hm : m ≤ maxLen) :
    Calls Tryz.prog 130 #[.slice A m c] w fun e w' => e = .returned (.bool (decide (relErr m l = 0))) ∧ w = w' := by
  have H := Lib.hid (check_any m l A m c B w hR hw hm)
  clear hw hR
  go_enter Tryz.func130, Tryz.ntmps130
  go_wp2_with fail
  refine (H.out).mono ?_
  rintro e w' ⟨rfl, rfl⟩
  go_wp2
  go_ret
  exact ⟨ret_bool (by first | rfl | (rw [Bool.eq_iff_iff]; simp)), rfl⟩
end Go.Proofs.YtjpmhbnikoggaaaGreatDoor
/- Contracts: the points of a set as an iterator, and the image of a set under a relation. -/
namespace Go.Proofs.YtjpmhbnikoggaaaGreatDoor
open Go.RowKit Go.Shelf Go.Proofs.Ws
attribute [local go_sem] Oper.semAt_some
/-- what the points are, without the proofs that they are members -/
def vals {p : Nat → Prop} (l : List { k : Nat // p k }) : List Nat := l.map Subtype.val
theorem vals_nil {p : Nat → Prop} : vals ([] : List { k : Nat // p k }) = [] := rfl
theorem vals_snoc {p : Nat → Prop} (l : List { k : Nat // p k }) (x : { k : Nat // p k }) : vals (l ++ [x]) = vals l ++ [x.1] := by unfold vals; rw [List.map_append]; rfl
theorem vals_length {p : Nat → Prop} (l : List { k : Nat // p k }) : (vals l).length = l.length := by unfold vals; rw [List.length_map]
theorem points_any (s : Nat) (w : World) :
    Calls Tryz.prog 175 #[.int .u64 s] w fun e w' => e = .returned (.func (.func 198) #[] #[.pointer (some ⟨w.heap.size, 0, none⟩)]) ∧ w' = w.alloc (.cells #[.int .u64 s] 37) := by
  have hmf : ∀ (fn : Fn) (first cap : Array Value) (w : World), (Instr.makeFunc fn first cap).run Tryz.prog w = .ok (.func fn first cap) w := fun _ _ _ _ => rfl
  go_enter Tryz.func175, Tryz.ntmps175
  go_wp2
  go_ret
  exact ⟨rfl, rfl⟩
set_option maxRecDepth 100000 in
set_option maxHeartbeats 2000000 in
theorem points1_in (n : Nat) (hn : 1 ≤ n) (l Bs n₀ : Nat) (s : Nat) (hs : s < 18446744073709551616) (hn₀ : 0 < n₀) (J Jx : List { k : Nat // k ∈ mem s } → World → Prop)
    (hY : ∀ pre x W, J pre W → pre.length < (mem s).length → YieldAt Fence.wide (n - 1) Tryz.prog l #[.int .i64 (x.1 : Int)] W fun e W' =>
      (e = .returned (.bool true) ∧ J (pre ++ [x]) W' ∧ Below n₀ W W') ∨ (e = .returned (.bool false) ∧ Jx (pre ++ [x]) W'))
    (W : World) (hBs : W.cell? ⟨Bs, 0, none⟩ = some (.int .u64 s)) (hT : Tab W) (h0 : J [] W) :
    CallsIn Fence.wide n Tryz.prog 198 #[.func (.yield l) #[] #[], .pointer (some ⟨Bs, 0, none⟩)] W fun e W' => (∃ v, e = .returned v) ∧
      ((∃ ys : List { k : Nat // k ∈ mem s }, vals ys = mem s ∧ J ys W') ∨ (∃ pre : List { k : Nat // k ∈ mem s }, vals pre <+: mem s ∧ Jx pre W')) := by
  have HS := Lib.hid hs
  have HT := Lib.hid hT
  have HY := Lib.hid hY
  have H0 := Lib.hid h0
  clear hs hT hY h0
  refine callsIn_of_wp Tryz.func198 rfl trivial ?_ rfl
  simp only [Tryz.ntmps198, List.size_toArray, List.length_cons, List.length_nil, Nat.reduceAdd, Nat.reduceSub, Array.replicate_succ, Array.replicate_zero, List.push_toArray, List.append_toArray, List.nil_append, List.cons_append]
  gi_wp2
  gi_loopw [3] (fun rv wr => ∃ (r : Nat) (pre : List { k : Nat // k ∈ mem s }), rv = .int .u64 r ∧ Hid (r < 18446744073709551616) ∧ Hid (mem s = vals pre ++ mem r) ∧ Hid (J pre wr) ∧ Hid (Below n₀ W wr))
    (fun rv _ => (intOf rv).toNat)
  case atStart => exact ⟨s, [], rfl, HS, Lib.hid rfl, H0, Lib.hid (Below.refl _ _)⟩
  case round =>
    obtain ⟨r, pre, rfl, Hr, HM, HJ, HB⟩ := hrel
    by_cases h0 : r = 0
    · subst h0
      have HE : Hid (vals pre = mem s) := Lib.hid (by have := HM.out; rw [mem_zero, List.append_nil] at this; exact this.symm)
      gi_wp2
      go_end0
      exact ⟨⟨_, rfl⟩, .inl ⟨pre, HE.out, HJ.out⟩⟩
    · have HZ := Lib.hid (tz_any r wr Hr.out h0 (HT.out.belowAt HB.out hn₀))
      have hne : ((r : Int) != 0) = true := by simp; omega
      have hap := andpred r h0 Hr.out
      have hst := mem_step r h0 Hr.out
      have hin : low r ∈ mem s := by rw [HM.out, hst]; simp
      have hlt : pre.length < (mem s).length := by have := congrArg List.length HM.out; rw [hst, List.length_append, vals_length, List.length_cons] at this; omega
      obtain ⟨x, hx⟩ : ∃ x : { k : Nat // k ∈ mem s }, x.1 = low r := ⟨⟨low r, hin⟩, rfl⟩
      obtain ⟨fn, tmps, assign, body, hy, hR⟩ := HY.out pre x wr HJ.out hlt
      rw [hx] at hy
      have HR := Lib.hid hR
      have HM2 : Hid (mem s = vals (pre ++ [x]) ++ mem (r &&& (r - 1))) := Lib.hid (by rw [vals_snoc, List.append_assoc, List.singleton_append, hx, ← hst]; exact HM.out)
      clear hx
      have HPL := Lib.hid (and_pred_lt r h0)
      clear h0 hst hlt hR
      gi_wp2_with (first | (refine ⟨trivial, ?_⟩; gi_at_call 199; refine (callsIn_wide.2 (HZ.out)).mono ?_; rintro e w' ⟨rfl, rfl⟩))
      refine (HR.out).mono ?_
      rintro e W3 (⟨rfl, hJ3, hk3⟩ | ⟨rfl, hJx3⟩)
      · have HJ3 := Lib.hid hJ3
        have HB3 := Lib.hid (HB.out.trans hk3)
        clear hJ3 hk3
        gi_wp2
        go_roundw
        case rel => exact ⟨r &&& (r - 1), pre ++ [x], rfl, Lib.hid (by have := HPL.out; have := Hr.out; omega), HM2, HJ3, HB3⟩
        case measure => have := HPL.out; simp [intOf]; omega
      · have HJ3 := Lib.hid hJx3
        clear hJx3
        gi_wp2
        refine bodyPost_ret (results_none rfl _ _ _) rfl ?_
        exact ⟨⟨_, rfl⟩, .inr ⟨pre ++ [x], ⟨mem (r &&& (r - 1)), HM2.out.symm⟩, HJ3.out⟩⟩
theorem cell_of_box_l {W : World} {B : Nat} {v : Value} {t : TypeId} (h : W.heap[B]? = some (.cells #[v] t (0, 0))) : W.cell? ⟨B, 0, none⟩ = some v ∧ W.frozen? ⟨B, 0, none⟩ = false := by
  constructor <;> simp [World.cell?, World.frozen?, h]
theorem cell_new_l (W : World) (v : Value) (t : TypeId) : (W.alloc (.cells #[v] t)).cell? ⟨W.heap.size, 0, none⟩ = some v ∧ (W.alloc (.cells #[v] t)).frozen? ⟨W.heap.size, 0, none⟩ = false :=
  cell_of_box_l (World.alloc_heap_new W _)
theorem cell_alloc_l {W : World} {a : Addr} {v : Value} (o : Obj) (h : W.cell? a = some v) : (W.alloc o).cell? a = some v := cell_kept h (World.grownBy_alloc W o none) (fun r e => by cases e)
theorem frozen_alloc_l {W : World} {a : Addr} {v : Value} (o : Obj) (h : W.cell? a = some v) (hf : W.frozen? a = false) : (W.alloc o).frozen? a = false := (frozen_kept h (World.grownBy_alloc W o none) (fun r e => by cases e)).trans hf
theorem points_stops (n : Nat) (hn : 1 ≤ n) (Bs n₀ : Nat) (s : Nat) (w : World) (hs : s < 18446744073709551616) (hB : Bs < w.heap.size) (hn₀ : 0 < n₀) (hc : w.cell? ⟨Bs, 0, none⟩ = some (.int .u64 s)) (hT : Tab w) :
    SeqStopsK Fence.wide n Tryz.prog 198 #[.pointer (some ⟨Bs, 0, none⟩)] (fun x : { k : Nat // k ∈ mem s } => #[Value.int .i64 (x.1 : Int)]) (Below n₀) (fun ys => vals ys = mem s) (fun pre => vals pre <+: mem s) (mem s).length w :=
  fun l J Jx W hW _ _ hY h0 => points1_in n hn l Bs n₀ s hs hn₀ J Jx hY W ((hW.cell (p := ⟨Bs, 0, none⟩) hB).trans hc) (hT.belowAt hW (by omega)) h0
/-- the successors of some points -/
def imgL (R : List Nat) (ks : List Nat) : Nat := ks.foldl (fun a k => a ||| R.getD k 0) 0
theorem imgL_snoc (R : List Nat) (ks : List Nat) (k : Nat) : imgL R (ks ++ [k]) = imgL R ks ||| R.getD k 0 := by simp [imgL]
/-- the successors of the points of a set -/
def imgV (R : List Nat) (s : Nat) : Nat := imgL R (mem (s &&& allV R.length))
theorem words_getD {R : List Nat} (h : Words R) (k : Nat) : R.getD k 0 < 18446744073709551616 := by
  rw [List.getD_eq_getElem?_getD]
  by_cases hk : k < R.length
  · rw [List.getElem?_eq_getElem hk]; exact h _ (List.getElem_mem hk)
  · rw [List.getElem?_eq_none (by omega)]; decide
theorem foldOr_lt (R : List Nat) (h : Words R) : ∀ (ks : List Nat) (a : Nat), a < 18446744073709551616 → ks.foldl (fun a k => a ||| R.getD k 0) a < 18446744073709551616
  | [], _, ha => ha
  | k :: ks, _, ha => foldOr_lt R h ks _ (Nat.or_lt_two_pow (n := 64) ha (words_getD h k))
theorem imgL_lt {R : List Nat} (h : Words R) (ks : List Nat) : imgL R ks < 18446744073709551616 := foldOr_lt R h ks 0 (by decide)
set_option maxRecDepth 100000 in
set_option maxHeartbeats 2000000 in
theorem image_any (R : List Nat) (A : Option Addr) (m c s : Nat) (w : World) (hs : s < 18446744073709551616) (hR : Reads w w.heap.size 1 A m (us R)) (hw : Words R) (hm : m ≤ 64) (hT : Tab w) :
    Calls Tryz.prog 176 #[.slice A m c, .int .u64 s] w fun e w' => e = .returned (.int .u64 (imgV R s : Int)) ∧ Below w.heap.size w w' := by
  have hlen := hR.word_len
  have hand : bits .and .u64 (s : Int) (allV m : Int) = ((s &&& allV m : Nat) : Int) := u64_and_nat s (allV m) hs (allV_lt m)
  have HA := Lib.hid (fun w => relAll_any m w hm)
  have HR := Lib.hid hR
  have HW := Lib.hid hw
  have HT := Lib.hid hT
  have HV : Hid (imgV R s = imgL R (mem (s &&& allV m))) := Lib.hid (by unfold imgV; rw [hlen])
  have hsm : s &&& allV m < 18446744073709551616 := Nat.lt_of_le_of_lt Nat.and_le_left hs
  have HM : Hid (∀ k ∈ mem (s &&& allV m), k < m) := Lib.hid (fun k hk => by
    have := (mem_iff _ _).1 hk
    rw [Nat.testBit_and, show allV (m : Int) = 2 ^ m - 1 from by unfold allV; rw [if_pos (by omega)]; rfl, Nat.testBit_two_pow_sub_one] at this
    simp at this
    omega)
  generalize s &&& allV m = t at *
  generalize imgV R s = v at *
  clear hs hR hw hT hlen
  refine (callsIn_wide (n := 6)).1 ?_
  refine callsIn_of_wp_marks Tryz.func176 rfl trivial ?_ rfl
  simp only [Tryz.ntmps176, List.size_toArray, List.length_cons, List.length_nil, Nat.reduceAdd, Nat.reduceSub, Array.replicate_succ, Array.replicate_zero, List.push_toArray, List.append_toArray, List.nil_append, List.cons_append]
  gi_wp2_with (first | (refine ⟨trivial, ?_⟩; gi_at_call 78; refine (callsIn_wide.2 (HA.out _)).mono ?_; rintro e w' ⟨rfl, rfl⟩) | (refine ⟨trivial, ?_⟩; gi_at_call 175; refine (callsIn_wide.2 (points_any _ _)).mono ?_; rintro e w' ⟨rfl, rfl⟩))
  have b0 := cell_new_l w (.slice A m c) 22
  have b1 := cell_new_l (w.alloc (.cells #[.slice A m c] 22)) (.int .u64 0) 37
  have b2 := cell_new_l ((w.alloc (.cells #[.slice A m c] 22)).alloc (.cells #[.int .u64 0] 37)) (.int .u64 t) 37
  simp only [World.size_alloc] at b1 b2
  have hB0 : Below w.heap.size w (((w.alloc (.cells #[.slice A m c] 22)).alloc (.cells #[.int .u64 0] 37)).alloc (.cells #[.int .u64 t] 37)) := (((Below.refl _ w).alloc (Nat.le_refl _) _).alloc (by simp) _).alloc (by simp; omega) _
  refine wpIn_rangeFunc_ownF rfl (by omega) (gf := 198) (lb := #[.pointer (some ⟨w.heap.size + 1 + 1, 0, none⟩)]) rfl trivial (enters_of Tryz.func198 (by kernel_rfl) rfl)
    (points_stops 5 (by omega) (w.heap.size + 1 + 1) w.heap.size t _ hsm (by simp) HT.out.2 b2.1 (HT.out.below hB0)) belowK_t (belowK_b (by simp; omega)) (Below.refl _ _) (fun _ => rfl)
    (fun pre W => (W.cell? ⟨w.heap.size, 0, none⟩ = some (.slice A m c) ∧ W.cell? ⟨w.heap.size + 1, 0, none⟩ = some (.int .u64 (imgL R (vals pre) : Int)) ∧ W.frozen? ⟨w.heap.size + 1, 0, none⟩ = false) ∧ Below w.heap.size w W)
    (fun _ _ _ => False)
    (OwnFrom.and (Own.from (fun s A B row hs hg hr => ⟨cell_kept hs.1 hg hr, cell_kept hs.2.1 hg hr, (frozen_kept hs.2.1 hg hr).trans hs.2.2⟩) _) (ownFrom_below (Nat.le_refl _) (by simp; omega)))
    (fun _ _ _ _ _ hs _ _ => hs)
    ⟨⟨cell_alloc_l _ (cell_alloc_l _ b0.1), cell_alloc_l _ b1.1, frozen_alloc_l _ b1.1 b1.2⟩, hB0⟩
    (fun x => { tmps := #[.slice A m c, .int .u64 s, .pointer (some ⟨w.heap.size, 0, none⟩), undef, .int .u64 0, .pointer (some ⟨w.heap.size + 1, 0, none⟩), .int .i64 (x.1 : Int), .int .u64 s, .slice A m c, .int .i64 m, .int .u64 (allV m : Int), .int .u64 t, .func (.func 198) #[] #[.pointer (some ⟨w.heap.size + 1 + 1, 0, none⟩)], .int .i64 (x.1 : Int), undef, undef, undef, undef, undef, undef, undef], defers := [] }) ?assign ?body ?done ?stop
  case assign =>
    intro l x W K hK
    gi_wp2
    exact hK
  case body =>
    rintro l pre x W ⟨⟨hc0, hc1, hf1⟩, hB⟩ _
    obtain ⟨ad, y, rfl, hbk, hkl, hy, hym, hd, hc⟩ := (HR.out.below hB).word_at (k := x.1) (HM.out x.1 x.2)
    have hmx : Tryz.prog.follows .mixedOrders = true := by kernel_rfl
    have hor : bits .or .u64 (imgL R (vals pre) : Int) (y : Int) = ((imgL R (vals pre) ||| y : Nat) : Int) := u64_or_nat _ _ (imgL_lt HW.out _) (HW.out y hym)
    have HI : Hid (imgL R (vals (pre ++ [x])) = imgL R (vals pre) ||| y) := Lib.hid (by rw [vals_snoc, imgL_snoc, hy])
    have hxm := HM.out x.1 x.2
    clear hy hym hd hkl
    gi_wp2
    gi_region_with_o (fail)
    all_goals gi_wp2
    all_goals (try go_bits)
    all_goals exact ⟨(KeepsOthers.setCell _ _ _).trans (KeepsOthers.drew _), ((Below.refl w.heap.size W).setCell (p := ⟨w.heap.size + 1, 0, none⟩) (by simp) _).drew, ⟨⟨(World.cell?_setCell_other W ⟨w.heap.size + 1, 0, none⟩ ⟨w.heap.size, 0, none⟩ _ (by simp)).trans hc0, by rw [HI.out]; exact World.cell?_setCell_same' W ⟨w.heap.size + 1, 0, none⟩ _ (by rw [hc1]; rfl), by rw [frozen_drew_own, World.frozen?_setCell]; exact hf1⟩, (hB.setCell (p := ⟨w.heap.size + 1, 0, none⟩) (by simp) _).drew⟩⟩
  case done =>
    rintro D ys W hD hys ⟨⟨_, hc1, _⟩, hB⟩ hK
    rw [hys, ← HV.out] at hc1
    gi_wp2
    refine ⟨by simp, .inl ⟨_, _, rfl, run_takeDeferred hK, ?_⟩⟩
    exact ⟨_, results_tmp rfl _ _ _, rfl, hB.trans (belowK_b (w := w) (Nat.le_refl _) W D _ _ (by simp at hD; omega) hK rfl rfl)⟩
  case stop =>
    rintro D c pre W _ _ h _
    exact h.elim
end Go.Proofs.YtjpmhbnikoggaaaGreatDoor
/- Contracts of layer 2's reference: membership, image, equality of lists of words; and what a slice of words made here holds. -/
namespace Go.Proofs.YtjpmhbnikoggaaaGreatDoor
open Go.RowKit Go.Proofs.Ws
theorem allV_nat (n : Nat) (h : n ≤ 64) : allV (n : Int) = 2 ^ n - 1 := by unfold allV; rw [if_pos (by omega)]; rfl
theorem mem_below (x n : Nat) (h : n ≤ 64) : mem (x &&& allV n) = (List.range n).filter (fun u => x.testBit u) := by
  have e : List.range 64 = List.range n ++ List.range' n (64 - n) := by
    rw [List.range_eq_range', List.range_eq_range']
    have : 64 = n + (64 - n) := by omega
    conv => lhs; rw [this]
    rw [← List.range'_append_1, Nat.zero_add]
  unfold mem
  rw [e, List.filter_append]
  have f1 : (List.range' n (64 - n)).filter (fun w => (x &&& allV n).testBit w) = [] := by
    rw [List.filter_eq_nil_iff]
    intro a ha
    have := (List.mem_range'_1.1 ha).1
    rw [Nat.testBit_and, allV_nat n h, Nat.testBit_two_pow_sub_one]
    simp; omega
  rw [f1, List.append_nil]
  apply List.filter_congr
  intro a ha
  have := List.mem_range.1 ha
  rw [Nat.testBit_and, allV_nat n h, Nat.testBit_two_pow_sub_one]
  simp [this]
theorem in_any (s i : Nat) (w : World) (hs : s < 18446744073709551616) (hi : i < 64) :
    Calls Tryz.prog 148 #[.int .u64 s, .int .i64 i] w fun e w' => e = .returned (.bool (s.testBit i)) ∧ w = w' := by
  have e1 : s.testBit i = decide (s / 2 ^ i % 2 = 1) := Nat.testBit_eq_decide_div_mod_eq
  have HE := Lib.hid e1
  have hd : s / 2 ^ i < 18446744073709551616 := Nat.lt_of_le_of_lt (Nat.div_le_self _ _) hs
  have hb : bits .and .u64 ((s : Int) / ((p2 i : Nat) : Int)) 1 = ((s / 2 ^ i % 2 : Nat) : Int) := by
    rw [show (s : Int) / ((p2 i : Nat) : Int) = ((s / 2 ^ i : Nat) : Int) from by unfold p2; omega, show (1 : Int) = ((1 : Nat) : Int) from rfl, u64_and_nat _ 1 hd (by decide), Nat.and_one_is_mod]
  clear e1 hd
  go_enter Tryz.func148, Tryz.ntmps148
  go_wp2
  go_ret
  refine ⟨ret_bool ?_, rfl⟩
  rw [show (2 : Int) ^ i = ((p2 i : Nat) : Int) from by simp [p2], hb, HE.out]
  have h3 : s / 2 ^ i % 2 = 0 ∨ s / 2 ^ i % 2 = 1 := by omega
  rcases h3 with h3 | h3 <;> rw [h3] <;> rfl
/-- block g holds just these words -/
def HoldsU (w : World) (g : Nat) (l : List Nat) : Prop := w.heap[g]? = some (.cells (us l).toArray 37 (0, 0))
theorem Tryz.infoU : (Tryz.prog.info? 37).map (fun i => (i.zero, i.size, i.bytes)) = some (some (.int .u64 0), 1, 8) := by kernel_rfl
theorem HoldsU.cell {w : World} {g : Nat} {l : List Nat} (h : HoldsU w g l) (k : Nat) (hk : k < l.length) : w.cell? ⟨g, k, none⟩ = some (.int .u64 ((l.getD k 0 : Nat) : Int)) := by
  rw [Lib.cell_of_heap h, List.getElem?_toArray]
  unfold us
  rw [List.getElem?_map, List.getElem?_eq_getElem hk, List.getD_eq_getElem?_getD, List.getElem?_eq_getElem hk]
  rfl
theorem HoldsU.free {w : World} {g : Nat} {l : List Nat} (h : HoldsU w g l) (k : Nat) : w.frozen? ⟨g, k, none⟩ = false := Lib.frozen_of_heap h k
theorem HoldsU.put {w : World} {g : Nat} {l : List Nat} (h : HoldsU w g l) (k x : Nat) : HoldsU (w.setCell ⟨g, k, none⟩ (.int .u64 (x : Int))) g (l.set k x) := by
  unfold HoldsU at h ⊢
  have e : (us (l.set k x)).toArray = (us l).toArray.setIfInBounds k (.int .u64 (x : Int)) := by
    unfold us
    rw [List.map_set]
    simp
  rw [e]
  simp [World.setCell, Array.getElem?_modify, h]
theorem HoldsU.far {w : World} {g g' : Nat} {l : List Nat} (h : HoldsU w g l) (hne : g ≠ g') (k : Nat) (u : Value) : HoldsU (w.setCell ⟨g', k, none⟩ u) g l :=
  (Below.heap_setCell w ⟨g', k, none⟩ u g hne).trans h
theorem HoldsU.made (w : World) (l : List Nat) : HoldsU (w.alloc (.cells (us l).toArray 37)) w.heap.size l := heap_alloc_new w _
theorem HoldsU.lt {w : World} {g : Nat} {l : List Nat} (h : HoldsU w g l) : g < w.heap.size := (Array.getElem?_eq_some_iff.1 h).1
theorem HoldsU.alloc {w : World} {g : Nat} {l : List Nat} (h : HoldsU w g l) (o : Obj) : HoldsU (w.alloc o) g l := (Below.heap_alloc w o g h.lt).trans h
theorem addr0 (g j : Nat) : (⟨g, 0, none⟩ : Addr).add j = ⟨g, j, none⟩ := by
  unfold Addr.add
  split
  · subst_vars; rfl
  · simp
theorem HoldsU.reads {w : World} {g : Nat} {l : List Nat} (h : HoldsU w g l) : Reads w w.heap.size 1 (some ⟨g, 0, none⟩) l.length (us l) := by
  refine ⟨by rw [us_length]; omega, fun _ => ⟨_, rfl, h.lt, fun j u hu => ?_⟩⟩
  rw [addr0]
  unfold us at hu
  rw [List.getElem?_map] at hu
  obtain ⟨k, hk, rfl⟩ := Option.map_eq_some_iff.1 hu
  have hj : j < l.length := by
    by_cases h' : j < l.length
    · exact h'
    · rw [List.getElem?_eq_none (by omega)] at hk; cases hk
  rw [h.cell j hj, List.getD_eq_getElem?_getD, hk]; rfl
set_option maxRecDepth 100000 in
theorem same_any (l m : List Nat) (A A2 : Option Addr) (n n2 c c2 B : Nat) (w : World) (hR : Reads w B 1 A n (us l)) (hR2 : Reads w B 1 A2 n2 (us m)) (hn : n ≤ maxLen) (hn2 : n2 ≤ maxLen) :
    Calls Tryz.prog 77 #[.slice A n c, .slice A2 n2 c2] w fun e w' => e = .returned (.bool (decide (l = m))) ∧ ∃ q, w' = w.drewN q := by
  unfold maxLen at hn hn2
  have e1 := hR.word_len
  have e2 := hR2.word_len
  by_cases h : n = n2
  · subst h
    have HL := Lib.hid e1
    have HL2 := Lib.hid e2
    clear e1 e2
    go_enter Tryz.func77, Tryz.ntmps77
    go_wp2
    go_loopw [5] (fun i wr => ∃ k q : Nat, k ≤ n ∧ i = .int .i64 k ∧ Hid (decide (l = m) = decide (l.drop k = m.drop k)) ∧ wr = w.drewN q) (fun i _ => n - (intOf i).toNat)
    case atStart => exact ⟨0, 0, Nat.zero_le _, rfl, Lib.hid rfl, rfl⟩
    case round =>
      obtain ⟨k, q, hk, rfl, HI, rfl⟩ := hrel
      by_cases hlt : k < n
      · obtain ⟨ad, x, rfl, hb, hkl, hx, hxm, hd, hc⟩ := hR.word_at hlt
        obtain ⟨ad2, y, rfl, hb2, hkl2, hy, hym, hd2, hc2⟩ := hR2.word_at hlt
        have HD := Lib.hid hd
        have HD2 := Lib.hid hd2
        clear hkl hx hxm hd hkl2 hy hym hd2
        by_cases hxy : x = y
        · subst hxy
          have HI2 : Hid (decide (l = m) = decide (l.drop (k + 1) = m.drop (k + 1))) := Lib.hid (by rw [HI.out, HD.out, HD2.out]; exact decide_eq_decide.2 (by simp))
          go_wp2
          go_quiet (fail)
          go_wp2
          go_roundw
          case rel => exact ⟨k + 1, q + nq, by omega, by go_num, HI2, by first | rfl | rw [World.drewN_drewN]⟩
          case measure => simp [intOf]; omega
        · have HE : Hid (decide (l = m) = false) := Lib.hid (by rw [HI.out, HD.out, HD2.out]; simp [hxy])
          have hne : ((x : Int) != (y : Int)) = true := by simp; omega
          clear hxy
          go_wp2
          go_quiet (fail)
          go_wp2
          go_ret
          exact ⟨ret_bool HE.out.symm, ⟨q + nq, by first | rfl | rw [World.drewN_drewN]⟩⟩
      · have HE : Hid (decide (l = m) = true) := Lib.hid (by rw [HI.out, List.drop_eq_nil_of_le (by have := HL.out; omega), List.drop_eq_nil_of_le (by have := HL2.out; omega)]; rfl)
        go_wp2
        go_ret
        exact ⟨ret_bool HE.out.symm, ⟨q, rfl⟩⟩
  · have hne : ((n : Int) != (n2 : Int)) = true := by simp; omega
    have HE : Hid (decide (l = m) = false) := Lib.hid (by simp; intro hh; subst hh; omega)
    clear e1 e2
    go_enter Tryz.func77, Tryz.ntmps77
    go_wp2
    go_ret
    exact ⟨ret_bool HE.out.symm, ⟨0, rfl⟩⟩
end Go.Proofs.YtjpmhbnikoggaaaGreatDoor
/- Contracts of layer 2: composition, union and meet by the program. -/
namespace Go.Proofs.YtjpmhbnikoggaaaGreatDoor
open Go.RowKit Go.Proofs.Ws
theorem HoldsU.below {w w' : World} {B g : Nat} {l : List Nat} (h : HoldsU w g l) (hb : Below B w w') (hg : g < B) : HoldsU w' g l := (hb.block g hg).trans h
def unionV (R S : List Nat) : List Nat := (List.range R.length).map (fun k => R.getD k 0 ||| S.getD k 0)
theorem Reads.word_k {w : World} {B n : Nat} {A : Option Addr} {l : List Nat} (h : Reads w B 1 A n (us l)) {k : Nat} (hk : k < n) :
    ∃ ad, A = some ad ∧ ad.block < B ∧ w.cell? (ad.add k) = some (.int .u64 ((l.getD k 0 : Nat) : Int)) := by
  obtain ⟨ad, x, hA, hb, _, hx, _, _, hc⟩ := h.word_at hk
  exact ⟨ad, hA, hb, by rw [hx]; exact hc⟩
end Go.Proofs.YtjpmhbnikoggaaaGreatDoor
/- Contracts of layer 2's reference: composition, union, meet, converse. -/
namespace Go.Proofs.YtjpmhbnikoggaaaGreatDoor
open Go.RowKit Go.Proofs.Ws
/-- a list of f's values where p says so, and of g's elsewhere -/
def mixL (p : Nat → Bool) (f g : Nat → Nat) (m : Nat) : List Nat := (List.range m).map (fun v => if p v then f v else g v)
theorem mixL_length (p : Nat → Bool) (f g : Nat → Nat) (m : Nat) : (mixL p f g m).length = m := by simp [mixL]
theorem mixL_getD (p : Nat → Bool) (f g : Nat → Nat) (m v : Nat) (h : v < m) : (mixL p f g m).getD v 0 = if p v then f v else g v := by
  rw [List.getD_eq_getElem?_getD, mixL, List.getElem?_map, List.getElem?_range h]; rfl
theorem mixL_congr {p p' : Nat → Bool} {f g f' g' : Nat → Nat} {m : Nat} (h : ∀ v, v < m → (if p v then f v else g v) = if p' v then f' v else g' v) : mixL p f g m = mixL p' f' g' m := by
  unfold mixL
  apply List.map_congr_left
  intro v hv
  exact h v (List.mem_range.1 hv)
theorem mixL_set (p p' : Nat → Bool) (f g : Nat → Nat) (m v x : Nat) (hx : (if p' v then f v else g v) = x) (hp : ∀ j, j ≠ v → p' j = p j) : (mixL p f g m).set v x = mixL p' f g m := by
  apply List.ext_getElem
  · simp [mixL]
  · intro i h1 h2
    rw [List.getElem_set]
    by_cases e : v = i
    · subst e; rw [if_pos rfl]; simp [mixL, hx]
    · rw [if_neg e]; simp [mixL, hp i (fun h => e h.symm)]
end Go.Proofs.YtjpmhbnikoggaaaGreatDoor
/- Contracts of layer 2: Box and Diamond on both sides. -/
namespace Go.Proofs.YtjpmhbnikoggaaaGreatDoor
open Go.RowKit Go.Proofs.Ws
/-- the points below n whose row passes a test -/
def whU (p : Nat → Bool) (R : List Nat) (n : Nat) : Nat := (List.range n).foldl (fun a k => if p (R.getD k 0) then a ||| p2 k else a) 0
theorem whU_succ (p : Nat → Bool) (R : List Nat) (n : Nat) : whU p R (n + 1) = if p (R.getD n 0) then whU p R n ||| p2 n else whU p R n := by
  unfold whU; rw [List.range_succ, List.foldl_append]; rfl
def whV (p : Nat → Bool) (R : List Nat) : Nat := if relErr R.length R = 0 then whU p R R.length else 0
def pBox (s x : Nat) : Bool := decide (x &&& (18446744073709551615 - s) = 0)
def pDia (s x : Nat) : Bool := decide (x &&& s ≠ 0)
theorem relErr_zero {R : List Nat} {n : Nat} (h : relErr n R = 0) : n ≤ 64 := by
  unfold relErr at h
  split at h
  · cases h
  · omega
end Go.Proofs.YtjpmhbnikoggaaaGreatDoor
/- Contracts of layer 2: the image by the reference, and what is reached, on both sides. -/
namespace Go.Proofs.YtjpmhbnikoggaaaGreatDoor
open Go.RowKit Go.Proofs.Ws
theorem filter_lt (p q : Nat → Bool) : ∀ (l : List Nat), (∀ a ∈ l, p a = true → q a = true) → (∃ a ∈ l, q a = true ∧ p a = false) → (l.filter p).length < (l.filter q).length
  | [], _, h => by obtain ⟨a, ha, _⟩ := h; cases ha
  | b :: l, h, hx => by
    have hle : (l.filter p).length ≤ (l.filter q).length := by
      rw [← List.countP_eq_length_filter, ← List.countP_eq_length_filter]
      exact List.countP_mono_left (fun a ha => h a (List.mem_cons_of_mem _ ha))
    by_cases hp : p b = true
    · have hq := h b (by simp) hp
      rw [List.filter_cons_of_pos hp, List.filter_cons_of_pos hq, List.length_cons, List.length_cons]
      have := filter_lt p q l (fun a ha => h a (List.mem_cons_of_mem _ ha)) (by
        obtain ⟨a, ha, h1, h2⟩ := hx
        rcases List.mem_cons.1 ha with rfl | ha
        · rw [hp] at h2; cases h2
        · exact ⟨a, ha, h1, h2⟩)
      omega
    · rw [List.filter_cons_of_neg hp]
      by_cases hq : q b = true
      · rw [List.filter_cons_of_pos hq, List.length_cons]; omega
      · rw [List.filter_cons_of_neg hq]
        exact filter_lt p q l (fun a ha => h a (List.mem_cons_of_mem _ ha)) (by
          obtain ⟨a, ha, h1, h2⟩ := hx
          rcases List.mem_cons.1 ha with rfl | ha
          · exact absurd h1 hq
          · exact ⟨a, ha, h1, h2⟩)
/-- a set that has more has more members -/
theorem mem_more (x y : Nat) (hx : x < 18446744073709551616) (hy : y < 18446744073709551616) (h : x ||| y ≠ x) : (mem x).length < (mem (x ||| y)).length := by
  unfold mem
  apply filter_lt
  · intro a _ ha; rw [Nat.testBit_or, ha]; rfl
  · apply Classical.byContradiction
    intro hn
    apply h
    apply Nat.eq_of_testBit_eq
    intro i
    by_cases hi : i < 64
    · by_cases hxi : x.testBit i = true
      · rw [Nat.testBit_or, hxi]; rfl
      · have hxi' : x.testBit i = false := by simpa using hxi
        apply Classical.byContradiction
        intro hne
        exact hn ⟨i, List.mem_range.2 hi, by simpa [hxi'] using hne, hxi'⟩
    · rw [Nat.testBit_or, bit_ge x i hx (by omega), bit_ge y i hy (by omega)]; rfl
theorem foldOr_in (R : List Nat) (m : Nat) (h : ∀ x ∈ R, x < 2 ^ m) : ∀ (ks : List Nat) (a : Nat), a < 2 ^ m → ks.foldl (fun a k => a ||| R.getD k 0) a < 2 ^ m
  | [], _, ha => ha
  | k :: ks, _, ha => foldOr_in R m h ks _ (Nat.or_lt_two_pow ha (by
    rw [List.getD_eq_getElem?_getD]
    by_cases hk : k < R.length
    · rw [List.getElem?_eq_getElem hk]; exact h _ (List.getElem_mem hk)
    · rw [List.getElem?_eq_none (by omega)]; exact Nat.two_pow_pos m))
theorem imgV_in {R : List Nat} {m : Nat} (h : ∀ x ∈ R, x < 2 ^ m) (s : Nat) : imgV R s < 2 ^ m := foldOr_in R m h _ 0 (Nat.two_pow_pos m)
theorem pow64 {m x : Nat} (hm : m ≤ 64) (h : x < 2 ^ m) : x < 18446744073709551616 := Nat.lt_of_lt_of_le h (Nat.pow_le_pow_right (by decide) hm)
theorem relErr_rows {R : List Nat} {m : Nat} (h : relErr m R = 0) : ∀ x ∈ R, x < 2 ^ m := by
  intro x hx
  unfold relErr at h
  split at h
  · cases h
  · split at h
    · cases h
    · split at h
      · rename_i h3
        unfold inN at h3
        have := List.all_eq_true.1 h3 x hx
        simpa using this
      · cases h
end Go.Proofs.YtjpmhbnikoggaaaGreatDoor
/- Contracts of layer 2: the converse by the reference. -/
namespace Go.Proofs.YtjpmhbnikoggaaaGreatDoor
open Go.RowKit Go.Proofs.Ws
end Go.Proofs.YtjpmhbnikoggaaaGreatDoor
/- Contracts of layer 2: the converse by the program. -/
namespace Go.Proofs.YtjpmhbnikoggaaaGreatDoor
open Go.RowKit Go.Shelf Go.Proofs.Ws
attribute [local go_sem] Oper.semAt_some
def mark (D : Nat) : Deferred := { target := .collected D, args := #[] }
def MarksOK (B : Nat) (Ds : List Nat) (w : World) : Prop := Ds.Nodup ∧ ∀ D ∈ Ds, B ≤ D ∧ w.heap[D]? = some (.deferred (some []))
theorem putObj_ne (w : World) (D k : Nat) (o : Obj) (h : k ≠ D) : (w.putObj D o).heap[k]? = w.heap[k]? := by
  simp [World.putObj, Ne.symm h]
theorem leaves_marks {F : Fence} {n : Nat} {P : Program} {fn : Func} {tmps : Array Value} {R : Ending → World → Prop} (B : Nat) : ∀ (Ds : List Nat) (w : World), MarksOK B Ds w →
    (∀ w', Below B w w' → (∀ (g : Nat) (o : Obj), w.heap[g]? = some o → o.isCells = true → w'.heap[g]? = some o) → LeavesIn F n P fn tmps R [] .returning w') → LeavesInM F n P fn tmps R (Ds.map mark) .returning w
  | [], w, _, h => h w (Below.refl _ _) (fun _ _ hg _ => hg)
  | D :: Ds, w, hM, h => by
    have hD := (hM.2 D (by simp))
    have hnd := List.nodup_cons.1 hM.1
    refine ⟨by simp, .inl ⟨D, _, rfl, run_takeDeferred hD.2, ?_⟩⟩
    have hb : Below B w (w.putObj D (.deferred none)) := ⟨rfl, rfl, rfl, by simp [World.putObj], fun k hk => putObj_ne _ _ _ _ (by have := hD.1; omega)⟩
    refine leaves_marks B Ds _ ⟨hnd.2, fun D' hD' => ⟨(hM.2 D' (by simp [hD'])).1, ?_⟩⟩ ?_
    · rw [putObj_ne _ _ _ _ (fun e => hnd.1 (by rw [← e]; exact hD'))]; exact (hM.2 D' (by simp [hD'])).2
    · intro w' hb' hk'
      refine h w' (hb.trans hb') (fun g o hg ho => hk' g o ?_ ho)
      rw [putObj_ne _ _ _ _ (fun e => by subst e; rw [hD.2] at hg; cases hg; cases ho)]; exact hg
theorem HoldsU.kept {W W' : World} {row : Option Nat} {g : Nat} {l : List Nat} (h : HoldsU W g l) (hg : W.grownBy W' row) (hr : ∀ r, row = some r → ∃ o : Obj, W.heap[r]? = some o ∧ o.isCells = false) : HoldsU W' g l :=
  (hg.block g h.lt (fun e => by
    obtain ⟨o, ho, hc⟩ := hr _ e.symm
    unfold HoldsU at h
    rw [h] at ho
    cases ho
    cases hc)).trans h
end Go.Proofs.YtjpmhbnikoggaaaGreatDoor
/- Contracts of layer 2: the symmetric closure by the reference. -/
namespace Go.Proofs.YtjpmhbnikoggaaaGreatDoor
open Go.RowKit Go.Proofs.Ws
theorem relErr_ok {l : List Nat} (h : l.length ≤ 64) (hx : ∀ x ∈ l, x < 2 ^ l.length) : relErr l.length l = 0 := by
  unfold relErr
  rw [if_neg (by omega), if_neg (by omega), if_pos]
  unfold inN
  rw [List.all_eq_true]
  intro x hm
  simpa using hx x hm
end Go.Proofs.YtjpmhbnikoggaaaGreatDoor
/- Contracts of layer 2: the steps of the closures that write one row: reflexive, transitive. -/
namespace Go.Proofs.YtjpmhbnikoggaaaGreatDoor
open Go.RowKit Go.Proofs.Ws
/-- whatever lay below B, block g apart, lies as it lay -/
structure BelowBut (B g : Nat) (w w' : World) : Prop where
  os : w'.os = w.os
  tape : w'.tape = w.tape
  output : w'.output = w.output
  size : w.heap.size ≤ w'.heap.size
  block : ∀ k, k < B → k ≠ g → w'.heap[k]? = w.heap[k]?
theorem BelowBut.refl (B g : Nat) (w : World) : BelowBut B g w w := ⟨rfl, rfl, rfl, Nat.le_refl _, fun _ _ _ => rfl⟩
theorem BelowBut.of {B : Nat} {w w' : World} (h : Below B w w') (g : Nat) : BelowBut B g w w' := ⟨h.os, h.tape, h.output, h.size, fun k hk _ => h.block k hk⟩
theorem BelowBut.trans {B g : Nat} {a b c : World} (h : BelowBut B g a b) (k : BelowBut B g b c) : BelowBut B g a c :=
  ⟨k.os.trans h.os, k.tape.trans h.tape, k.output.trans h.output, Nat.le_trans h.size k.size, fun j hj hg => (k.block j hj hg).trans (h.block j hj hg)⟩
theorem BelowBut.setCell {B g : Nat} {a w : World} (h : BelowBut B g a w) (k : Nat) (u : Value) : BelowBut B g a (w.setCell ⟨g, k, none⟩ u) := by
  have e : BelowBut B g w (w.setCell ⟨g, k, none⟩ u) := by
    have b := (Below.refl 0 w).setCell (p := ⟨g, k, none⟩) (Nat.zero_le _) u
    exact ⟨b.os, b.tape, b.output, b.size, fun j _ hg => Below.heap_setCell w ⟨g, k, none⟩ u j hg⟩
  exact h.trans e
theorem BelowBut.drew {B g : Nat} {a w : World} (h : BelowBut B g a w) : BelowBut B g a w.drew := ⟨h.os, h.tape, h.output, h.size, h.block⟩
theorem BelowBut.mono {B B' g : Nat} {w w' : World} (h : BelowBut B g w w') (hB : B' ≤ B) : BelowBut B' g w w' := ⟨h.os, h.tape, h.output, h.size, fun k hk hg => h.block k (Nat.lt_of_lt_of_le hk hB) hg⟩
/-- what lay below g too lies as it lay -/
theorem BelowBut.below {B g : Nat} {w w' : World} (h : BelowBut B g w w') (hg : B ≤ g) : Below B w w' := ⟨h.os, h.tape, h.output, h.size, fun k hk => h.block k hk (by omega)⟩
/-- block g holds these words, and maybe more behind them -/
def HoldsP (w : World) (g : Nat) (l : List Nat) : Prop := ∃ pad : List Value, w.heap[g]? = some (.cells (us l ++ pad).toArray 37 (0, 0))
theorem HoldsU.pad {w : World} {g : Nat} {l : List Nat} (h : HoldsU w g l) : HoldsP w g l := ⟨[], by rw [List.append_nil]; exact h⟩
theorem HoldsP.cell {w : World} {g : Nat} {l : List Nat} (h : HoldsP w g l) (k : Nat) (hk : k < l.length) : w.cell? ⟨g, k, none⟩ = some (.int .u64 ((l.getD k 0 : Nat) : Int)) := by
  obtain ⟨pad, h⟩ := h
  rw [Lib.cell_of_heap h, List.getElem?_toArray, List.getElem?_append_left (by rw [us_length]; exact hk)]
  unfold us
  rw [List.getElem?_map, List.getElem?_eq_getElem hk, List.getD_eq_getElem?_getD, List.getElem?_eq_getElem hk]
  rfl
theorem HoldsP.free {w : World} {g : Nat} {l : List Nat} (h : HoldsP w g l) (k : Nat) : w.frozen? ⟨g, k, none⟩ = false := by
  obtain ⟨pad, h⟩ := h
  exact Lib.frozen_of_heap h k
theorem HoldsP.put {w : World} {g : Nat} {l : List Nat} (h : HoldsP w g l) (k x : Nat) : HoldsP (w.setCell ⟨g, k, none⟩ (.int .u64 (x : Int))) g (l.set k x) := by
  obtain ⟨pad, h⟩ := h
  by_cases hk : k < l.length
  · refine ⟨pad, ?_⟩
    have e : (us (l.set k x) ++ pad).toArray = (us l ++ pad).toArray.setIfInBounds k (.int .u64 (x : Int)) := by
      unfold us
      rw [List.map_set]
      simp [hk]
    rw [e]
    simp [World.setCell, Array.getElem?_modify, h]
  · refine ⟨pad.set (k - l.length) (.int .u64 (x : Int)), ?_⟩
    have e : (us (l.set k x) ++ pad.set (k - l.length) (.int .u64 (x : Int))).toArray = (us l ++ pad).toArray.setIfInBounds k (.int .u64 (x : Int)) := by
      rw [List.set_eq_of_length_le (by omega)]
      simp [List.set_append, us_length, hk]
    rw [e]
    simp [World.setCell, Array.getElem?_modify, h]
theorem HoldsP.lt {w : World} {g : Nat} {l : List Nat} (h : HoldsP w g l) : g < w.heap.size := by
  obtain ⟨pad, h⟩ := h
  exact (Array.getElem?_eq_some_iff.1 h).1
theorem HoldsP.via {w w' : World} {g : Nat} {l : List Nat} (h : HoldsP w g l) (e : ∀ (g : Nat) (o : Obj), w.heap[g]? = some o → o.isCells = true → w'.heap[g]? = some o) : HoldsP w' g l := by
  obtain ⟨pad, h⟩ := h
  exact ⟨pad, e _ _ h rfl⟩
theorem HoldsP.below {w w' : World} {B g : Nat} {l : List Nat} (h : HoldsP w g l) (hb : Below B w w') (hg : g < B) : HoldsP w' g l := by
  obtain ⟨pad, h⟩ := h
  exact ⟨pad, (hb.block g hg).trans h⟩
theorem HoldsP.kept {W W' : World} {row : Option Nat} {g : Nat} {l : List Nat} (h : HoldsP W g l) (hg : W.grownBy W' row) (hr : ∀ r, row = some r → ∃ o : Obj, W.heap[r]? = some o ∧ o.isCells = false) : HoldsP W' g l := by
  have hlt := h.lt
  obtain ⟨pad, h⟩ := h
  exact ⟨pad, (hg.block g hlt (fun e => by
    obtain ⟨o, ho, hc⟩ := hr _ e.symm
    rw [h] at ho
    cases ho
    cases hc)).trans h⟩
theorem HoldsP.reads {w : World} {g : Nat} {l : List Nat} (h : HoldsP w g l) : Reads w w.heap.size 1 (some ⟨g, 0, none⟩) l.length (us l) := by
  refine ⟨by rw [us_length]; omega, fun _ => ⟨_, rfl, h.lt, fun j u hu => ?_⟩⟩
  rw [addr0]
  unfold us at hu
  rw [List.getElem?_map] at hu
  obtain ⟨k, hk, rfl⟩ := Option.map_eq_some_iff.1 hu
  have hj : j < l.length := by
    by_cases h' : j < l.length
    · exact h'
    · rw [List.getElem?_eq_none (by omega)] at hk; cases hk
  rw [h.cell j hj, List.getD_eq_getElem?_getD, hk]; rfl
theorem stepReflexive_any (l : List Nat) (g m c k : Nat) (w : World) (hH : HoldsP w g l) (hw : Words l) (hl : l.length = m) (hk : k < m) (hm : m ≤ 64) :
    Calls Tryz.prog 133 #[.slice (some ⟨g, 0, none⟩) m c, .int .i64 k] w fun e w' => e = .returned (.tuple #[]) ∧ HoldsP w' g (l.set k (l.getD k 0 ||| p2 k)) ∧ BelowBut w.heap.size g w w' := by
  have hcz := hH.cell k (by omega)
  have hf := hH.free k
  have hor := (or_pow (l.getD k 0) k (words_getD hw k) (by omega)).1
  have HP := Lib.hid (hH.put k (l.getD k 0 ||| p2 k))
  have HO := Lib.hid (fun W => relOnly_any k W (by omega))
  generalize l.getD k 0 = x at *
  clear hH hw
  go_enter Tryz.func133, Tryz.ntmps133
  go_wp2
  go_region_with (go_at_call 174; refine (HO.out _).mono ?_; rintro e w' ⟨rfl, rfl⟩)
  all_goals go_wp2
  all_goals go_end0
  all_goals first
    | exact ⟨rfl, HP.out, ((BelowBut.refl w.heap.size g w).setCell k _).drew⟩
    | exact ⟨rfl, HP.out, (BelowBut.refl w.heap.size g w).setCell k _⟩
theorem stepTransitive_any (l : List Nat) (g m c k : Nat) (w : World) (hH : HoldsP w g l) (hw : Words l) (hl : l.length = m) (hk : k < m) (hm : m ≤ 64) (hT : Tab w) :
    Calls Tryz.prog 135 #[.slice (some ⟨g, 0, none⟩) m c, .int .i64 k] w fun e w' => e = .returned (.tuple #[]) ∧ HoldsP w' g (l.set k (l.getD k 0 ||| imgV l (l.getD k 0))) ∧ BelowBut w.heap.size g w w' := by
  have hcz := hH.cell k (by omega)
  have hf := hH.free k
  have hxw := words_getD hw k
  have hgl := hH.lt
  have hor : bits .or .u64 ((l.getD k 0 : Nat) : Int) (imgV l (l.getD k 0) : Int) = ((l.getD k 0 ||| imgV l (l.getD k 0) : Nat) : Int) := u64_or_nat _ _ hxw (imgL_lt hw _)
  have hr := hH.reads
  rw [hl] at hr
  have HI := Lib.hid (image_any l (some ⟨g, 0, none⟩) m c (l.getD k 0) w hxw hr hw hm hT)
  have HID := Lib.hid (image_any l (some ⟨g, 0, none⟩) m c (l.getD k 0) w.drew hxw hr hw hm hT)
  have HH := Lib.hid hH
  generalize l.getD k 0 = x at *
  generalize imgV l x = y at *
  clear hH hw hT hr hxw
  go_enter Tryz.func135, Tryz.ntmps135
  go_wp2
  go_region_with (go_at_call 176; first | (refine (HI.out).mono ?_; rintro e w3 ⟨rfl, hb3⟩; have hcz3 := (hb3.cell (p := ⟨g, k, none⟩) hgl).trans hcz; have hf3 := (hb3.frozen (p := ⟨g, k, none⟩) hgl).trans hf) | (refine (HID.out).mono ?_; rintro e w3 ⟨rfl, hb3'⟩; have hb3 : Below w.heap.size w w3 := ((Below.refl w.heap.size w).drew).trans hb3'; clear hb3'; have hcz3 := (hb3.cell (p := ⟨g, k, none⟩) hgl).trans hcz; have hf3 := (hb3.frozen (p := ⟨g, k, none⟩) hgl).trans hf))
  all_goals go_wp2
  all_goals go_end0
  all_goals first
    | exact ⟨rfl, (HH.out.below hb3 hgl).put k _, (BelowBut.of hb3 g).trans ((BelowBut.refl _ g _).setCell k _)⟩
    | exact ⟨rfl, (HH.out.below hb3 hgl).put k _, ((BelowBut.of hb3 g).trans ((BelowBut.refl _ g _).setCell k _)).drew⟩
end Go.Proofs.YtjpmhbnikoggaaaGreatDoor
