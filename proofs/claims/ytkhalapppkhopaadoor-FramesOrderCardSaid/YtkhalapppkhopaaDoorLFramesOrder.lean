/- Layer 15: FramesOrder: models of stronger logics are models of weaker ones. -/
import Derived.Test.YtkhalapppkhopaaDoorNFi
import Derived.Test.YtkhalapppkhopaaDoorNFq
namespace Go.Proofs.YtkhalapppkhopaaDoor.framesOrder
open Go.ChangeShapes Go.WideShapes Go.ChangeAt Go.RowKit Go.Proofs.YtkhalapppkhopaaDoor Go.Proofs.YtkhalapppkhopaaDoor.fra Go.Proofs.Ws
open Go.ChangeMaps (open_string shut_string)
theorem refl_ser {n : Nat} {l : List Nat} (h : HasQ n l 2) (hl : l.length = n) : HasQ n l 1 := by
  refine ⟨h.1, (hasP1 n l).2 fun h0 => ?_⟩
  obtain ⟨i, hi, e⟩ := List.getElem_of_mem h0
  have h2 := (hasP2 n l).1 h.2 i (by omega)
  unfold bit at h2
  rw [List.getD_eq_getElem?_getD, List.getElem?_eq_getElem hi, e] at h2
  simp at h2
/-- all relations have a property -/
def AP (m : Mo) (p : Int) : Prop := ∀ l ∈ m.rel, HasQ l.length l p
theorem inG_iff (m : Mo) {g : Int} (hg : proE g = 0) : InG m g ↔ chkM m = 0 ∧ ∀ p ∈ proL g, AP m p := by
  unfold InG ckE
  constructor
  · rintro ⟨h1, h2⟩
    by_cases h : chkM m = 0
    · exact ⟨h, fun p hp l hl => h2 l hl p hp⟩
    · rw [if_neg h] at h1; exact absurd h1 h
  · rintro ⟨h1, h2⟩
    rw [if_pos h1]
    exact ⟨hg, fun l hl p hp => h2 p hp l hl⟩
theorem qB_and (P Q : Prop) : qB (P ∧ Q) = (qB P && qB Q) := by
  rw [Bool.eq_iff_iff, qB_iff, Bool.and_eq_true, qB_iff, qB_iff]
theorem in_0 (m : Mo) : qB (InG m 0) = qB (chkM m = 0) := qB_congr ((inG_iff m (by decide)).trans ⟨fun h => h.1, fun h => ⟨h, fun p hp => absurd hp (by simp [proL])⟩⟩)
theorem in_1 (m : Mo) : qB (InG m 1) = (qB (chkM m = 0) && qB (AP m 1)) := by
  rw [← qB_and]
  exact qB_congr ((inG_iff m (by decide)).trans ⟨fun h => ⟨h.1, h.2 1 (by decide)⟩, fun h => ⟨h.1, fun p hp => by rw [show proL 1 = [1] from rfl] at hp; rw [List.mem_singleton.1 hp]; exact h.2⟩⟩)
theorem in_2 (m : Mo) : qB (InG m 2) = (qB (chkM m = 0) && qB (AP m 2)) := by
  rw [← qB_and]
  exact qB_congr ((inG_iff m (by decide)).trans ⟨fun h => ⟨h.1, h.2 2 (by decide)⟩, fun h => ⟨h.1, fun p hp => by rw [show proL 2 = [2] from rfl] at hp; rw [List.mem_singleton.1 hp]; exact h.2⟩⟩)
theorem in_3 (m : Mo) : qB (InG m 3) = (qB (chkM m = 0) && qB (AP m 4)) := by
  rw [← qB_and]
  exact qB_congr ((inG_iff m (by decide)).trans ⟨fun h => ⟨h.1, h.2 4 (by decide)⟩, fun h => ⟨h.1, fun p hp => by rw [show proL 3 = [4] from rfl] at hp; rw [List.mem_singleton.1 hp]; exact h.2⟩⟩)
theorem in_4 (m : Mo) : qB (InG m 4) = (qB (chkM m = 0) && (qB (AP m 2) && qB (AP m 4))) := by
  rw [← qB_and, ← qB_and]
  exact qB_congr ((inG_iff m (by decide)).trans ⟨fun h => ⟨h.1, h.2 2 (by decide), h.2 4 (by decide)⟩, fun h => ⟨h.1, fun p hp => by
    rw [show proL 4 = [2, 4] from rfl] at hp
    simp only [List.mem_cons, List.not_mem_nil, or_false] at hp
    rcases hp with rfl | rfl
    · exact h.2.1
    · exact h.2.2⟩⟩)
theorem in_5 (m : Mo) : qB (InG m 5) = (qB (chkM m = 0) && (qB (AP m 1) && (qB (AP m 4) && qB (AP m 5)))) := by
  rw [← qB_and, ← qB_and, ← qB_and]
  exact qB_congr ((inG_iff m (by decide)).trans ⟨fun h => ⟨h.1, h.2 1 (by decide), h.2 4 (by decide), h.2 5 (by decide)⟩, fun h => ⟨h.1, fun p hp => by
    rw [show proL 5 = [1, 4, 5] from rfl] at hp
    simp only [List.mem_cons, List.not_mem_nil, or_false] at hp
    rcases hp with rfl | rfl | rfl
    · exact h.2.1
    · exact h.2.2.1
    · exact h.2.2.2⟩⟩)
theorem in_6 (m : Mo) : qB (InG m 6) = (qB (chkM m = 0) && (qB (AP m 2) && (qB (AP m 4) && qB (AP m 5)))) := by
  rw [← qB_and, ← qB_and, ← qB_and]
  exact qB_congr ((inG_iff m (by decide)).trans ⟨fun h => ⟨h.1, h.2 2 (by decide), h.2 4 (by decide), h.2 5 (by decide)⟩, fun h => ⟨h.1, fun p hp => by
    rw [show proL 6 = [2, 4, 5] from rfl] at hp
    simp only [List.mem_cons, List.not_mem_nil, or_false] at hp
    rcases hp with rfl | rfl | rfl
    · exact h.2.1
    · exact h.2.2.1
    · exact h.2.2.2⟩⟩)
theorem ap_21 (m : Mo) (h : qB (AP m 2) = true) : qB (AP m 1) = true := (qB_iff _).2 fun l hl => refl_ser ((qB_iff _).1 h l hl) rfl
set_option maxHeartbeats 4000000 in
theorem inC_any (m : Mo) (v : Value) (g : Int) (B : Nat) (w : World) (hM : MoR w w.heap.size v m) (hT : Tab w) (hB : ∃ a b c, v = .agg #[a, b, c] ∧ w.heap[B]? = some (.cells #[a, b, c] 25)) :
    Calls Tryd.prog 27 #[.int .i64 g, .pointer (some ⟨B, 0, none⟩)] w fun e w' => e = .returned (.bool (qB (InG m g))) ∧ Below w.heap.size w w' := by
  obtain ⟨a, b, c, rfl, hB⟩ := hB
  have HI := Lib.hid (pIn_any m _ g w hM hT)
  have c0 := (Lib.cell_of_heap hB 0).trans (show _ = some a from rfl)
  have c1 := (Lib.cell_of_heap hB 1).trans (show _ = some b from rfl)
  have c2 := (Lib.cell_of_heap hB 2).trans (show _ = some c from rfl)
  clear hM hT hB
  go_enter Tryd.func27, Tryd.ntmps27
  go_wp2_with fail
  refine (HI.out).mono ?_
  rintro e w1 ⟨rfl, hb⟩
  have HB := Lib.hid hb
  clear hb
  go_wp2
  go_ret
  exact ⟨rfl, HB.out⟩
set_option maxRecDepth 100000
set_option maxHeartbeats 16000000 in
theorem walk (m : Mo) (v : Value) (w : World) (hM : MoR w w.heap.size v m) (hT : Tab w) :
    Calls Tryd.prog 8 #[v] w fun e w' => e = .returned (.bool true) ∧ Below w.heap.size w w' := by
  obtain ⟨A1, c1, A2, c2, rfl, hv, hr⟩ := hM.ex
  have HMW := Lib.hid (fun W (hb : Below w.heap.size w W) => hM.below hb hb.size)
  have HTW := Lib.hid (fun W (hb : Below w.heap.size w W) => hT.below hb)
  have HAW : Hid (∀ W, Below w.heap.size w W → Calls Tryd.prog 11 #[] W fun e w' => e = .returned (.bool true) ∧ Below W.heap.size W w') := Lib.hid (fun W hb => awake_any W (hT.below hb))
  have HFW : Hid (∀ W, Below w.heap.size w W → Calls Tryd.prog 10 #[.agg #[.int .i64 m.n, .slice A1 m.val.length c1, .slice A2 m.rel.length c2], .int .i64 12] W fun e w' => e = .returned (.bool (fewK m 12)) ∧ Below W.heap.size W w') := Lib.hid (fun W hb => rFewK_any m _ 12 W (HMW.out W hb))
  have HB0 := Lib.hid ((Below.refl w.heap.size w).alloc (Nat.le_refl _) (.cells #[.int .i64 m.n, .slice A1 m.val.length c1, .slice A2 m.rel.length c2] 25))
  have KB0 : Hid ((w.alloc (.cells #[.int .i64 m.n, .slice A1 m.val.length c1, .slice A2 m.rel.length c2] 25)).heap[w.heap.size]? = some (.cells #[.int .i64 m.n, .slice A1 m.val.length c1, .slice A2 m.rel.length c2] 25)) := Lib.hid (heap_alloc_new w _)
  have HLT : Hid (w.heap.size < (w.alloc (.cells #[.int .i64 m.n, .slice A1 m.val.length c1, .slice A2 m.rel.length c2] 25)).heap.size) := Lib.hid (by simp)
  have hmf : ∀ (fn : Fn) (first cap : Array Value) (w : World), (Instr.makeFunc fn first cap).run Tryd.prog w = .ok (.func fn first cap) w := fun _ _ _ _ => rfl
  clear hM hv hr hT
  go_enter Tryd.func8, Tryd.ntmps8
  by_cases hf : fewK m 12 = true
  case neg =>
    have hf2 : fewK m 12 = false := by simpa using hf
    rw [hf2] at HFW
    clear hf hf2
    go_wp2_with fail
    refine (HFW.out _ HB0.out).mono ?_
    rintro e w3 ⟨rfl, hb3⟩
    have HB3 := Lib.hid (HB0.out.trans (hb3.mono HB0.out.size))
    clear hb3
    go_wp2_with fail
    refine (HAW.out _ HB3.out).mono ?_
    rintro e w4 ⟨rfl, hb4⟩
    have HB4 := Lib.hid (HB3.out.trans (hb4.mono HB3.out.size))
    clear hb4
    go_wp2
    go_ret
    exact ⟨rfl, HB4.out⟩
  case pos =>
    rw [hf] at HFW
    clear hf
    go_wp2_with fail
    refine (HFW.out _ HB0.out).mono ?_
    rintro e w3 ⟨rfl, hb3⟩
    have HB3 := Lib.hid (HB0.out.trans (hb3.mono HB0.out.size))
    have KB3 := Lib.hid ((hb3.block _ HLT.out).trans KB0.out)
    have HL3 := Lib.hid (Nat.lt_of_lt_of_le HLT.out hb3.size)
    clear hb3
    have HU : Hid (∀ W, Below w3.heap.size w3 W → Below w.heap.size w W ∧ W.heap[w.heap.size]? = some (.cells #[.int .i64 m.n, .slice A1 m.val.length c1, .slice A2 m.rel.length c2] 25)) := Lib.hid (fun W hb => ⟨HB3.out.trans (hb.mono HB3.out.size), (hb.block _ HL3.out).trans KB3.out⟩)
    have HCK : Hid (∀ W, Below w3.heap.size w3 W → Calls Tryd.prog 28 #[.agg #[.int .i64 m.n, .slice A1 m.val.length c1, .slice A2 m.rel.length c2]] W fun e w' => e = .returned (.int .i64 (chkM m)) ∧ Below W.heap.size W w') := Lib.hid (fun W hb => rCheck_any m _ W (HMW.out W (HU.out W hb).1))
    have HAK : Hid (∀ W, Below w3.heap.size w3 W → Calls Tryd.prog 11 #[] W fun e w' => e = .returned (.bool true) ∧ Below W.heap.size W w') := Lib.hid (fun W hb => HAW.out W (HU.out W hb).1)
    have HI : Hid (∀ (g : Int) W, Below w3.heap.size w3 W → Calls Tryd.prog 27 #[.int .i64 g, .pointer (some ⟨w.heap.size, 0, none⟩)] W fun e w' => e = .returned (.bool (qB (InG m g))) ∧ Below W.heap.size W w') := Lib.hid (fun g W hb => inC_any m _ g w.heap.size W (HMW.out W (HU.out W hb).1) (HTW.out W (HU.out W hb).1) ⟨_, _, _, rfl, (HU.out W hb).2⟩)
    have K0 := Lib.hid (HI.out 0)
    rw [in_0 m] at K0
    have K1 := Lib.hid (HI.out 1)
    rw [in_1 m] at K1
    have K2 := Lib.hid (HI.out 2)
    rw [in_2 m] at K2
    have K3 := Lib.hid (HI.out 3)
    rw [in_3 m] at K3
    have K4 := Lib.hid (HI.out 4)
    rw [in_4 m] at K4
    have K5 := Lib.hid (HI.out 5)
    rw [in_5 m] at K5
    have K6 := Lib.hid (HI.out 6)
    rw [in_6 m] at K6
    have hz : (chkM m == 0) = qB (chkM m = 0) := by rw [Bool.eq_iff_iff, beq_iff_eq, qB_iff]
    have h21 := ap_21 m
    generalize qB (chkM m = 0) = bv at *
    generalize qB (AP m 1) = a1 at *
    generalize qB (AP m 2) = a2 at *
    generalize qB (AP m 4) = a4 at *
    generalize qB (AP m 5) = a5 at *
    generalize chkM m = cm at *
    clear HI HFW HMW HTW HAW
    go_wp2
    cases bv
    case false =>
      replace K2 : Hid (∀ W, Below w3.heap.size w3 W → Calls Tryd.prog 27 #[.int .i64 2, .pointer (some ⟨w.heap.size, 0, none⟩)] W fun e w' => e = .returned (.bool false) ∧ Below W.heap.size W w') := K2
      replace K5 : Hid (∀ W, Below w3.heap.size w3 W → Calls Tryd.prog 27 #[.int .i64 5, .pointer (some ⟨w.heap.size, 0, none⟩)] W fun e w' => e = .returned (.bool false) ∧ Below W.heap.size W w') := K5
      replace K6 : Hid (∀ W, Below w3.heap.size w3 W → Calls Tryd.prog 27 #[.int .i64 6, .pointer (some ⟨w.heap.size, 0, none⟩)] W fun e w' => e = .returned (.bool false) ∧ Below W.heap.size W w') := K6
      refine wp_region_mix [.func (.func 27) #[] #[.pointer (some ⟨w.heap.size, 0, none⟩)], .bool false, .agg #[.int .i64 m.n, .slice A1 m.val.length c1, .slice A2 m.rel.length c2], .int .i64 cm, .bool false, .bool true, .bool true, .func (.func 27) #[] #[.pointer (some ⟨w.heap.size, 0, none⟩)], .bool false, .bool true, .bool true, undef, undef, undef, undef, undef, undef, .bool true, .bool true, .bool true, .func (.func 27) #[] #[.pointer (some ⟨w.heap.size, 0, none⟩)], .bool false, .bool true, .bool true, undef, undef, undef, undef, undef, undef, .bool true, .bool true, .bool true, .func (.func 27) #[] #[.pointer (some ⟨w.heap.size, 0, none⟩)], .bool false, .bool true, .bool true, undef, undef, undef, undef, undef, undef, .bool true, .bool true, .bool true, .func (.func 27) #[] #[.pointer (some ⟨w.heap.size, 0, none⟩)], .bool false, .bool true, .bool true, undef, undef, .bool true, .bool true, .bool true, .func (.func 27) #[] #[.pointer (some ⟨w.heap.size, 0, none⟩)], .bool false, .bool true, .bool true, undef, undef, .bool true, .bool true, .bool true] [10, 11, 12, 13, 14, 15, 16, 17, 18, 19, 20, 21, 22, 23, 24, 25, 26, 27, 28, 29, 30, 31, 32, 33, 34, 35, 36, 37, 38, 39, 40, 41, 42, 43, 44, 45, 46, 47, 48, 49, 50, 51, 52, 53, 54, 55, 56, 57, 58, 59, 60, 61, 62, 63, 64, 65, 66, 67, 68, 69, 70, 71, 72, 4] [1, 2, 3, 4, 5, 8, 21, 34, 47, 56] (fun W => Below w3.heap.size w3 W) (fun W W' => Below W.heap.size W W') 64 91 rfl rfl rfl rfl (by decide) (by decide) (by kernel_rfl) (by kernel_rfl) (by kernel_rfl) (fun W => Below.refl _ W) (fun W1 W2 W3 h1 h2 => h1.trans (h2.mono h1.size)) (fun W W' h h2 => h.trans (h2.mono h.size)) (Below.refl _ w3).drew (by kernel_rfl) [] rfl ?hop ?fin
      case hop =>
        refine (And.intro ?s1 (And.intro ?s2 (And.intro ?s3 (And.intro ?s4 (And.intro ?s5 (And.intro ?s8 (And.intro ?s21 (And.intro ?s34 (And.intro ?s47 (And.intro ?s56 trivial))))))))))
        case s1 =>
          refine And.intro (by rfl) (fun tm W hS hsz hfr hdep K hK => ?_)
          change tm.size = 91 at hsz
          have t10 : tm.getD 10 undef = .func (.func 27) #[] #[.pointer (some ⟨w.heap.size, 0, none⟩)] := hdep 0 (by rfl) (by decide)
          clear hdep hfr HB0 KB0 HLT HB3 KB3 HL3 HAK HCK K1 K2 K3 K4 K5 K6 h21
          refine wp_call _ _ _ _ _ rfl t10 (by rfl) (by kernel_rfl) (K0.out W hS) (fun e W9 h9 => ?_)
          obtain ⟨rfl, hb9⟩ := h9
          exact ⟨_, rfl, hK W9 hb9⟩
        case s2 =>
          refine And.intro (by rfl) (fun tm W hS hsz hfr hdep K hK => ?_)
          change tm.size = 91 at hsz
          have t1 : tm.getD 1 undef = .pointer (some ⟨w.heap.size, 0, none⟩) := hfr 1 (by rfl)
          have kb := (HU.out W hS).2
          have y0 := (Lib.cell_of_heap kb 0).trans (show _ = some (.int .i64 m.n) from rfl)
          have y1 := (Lib.cell_of_heap kb 1).trans (show _ = some (.slice A1 m.val.length c1) from rfl)
          have y2 := (Lib.cell_of_heap kb 2).trans (show _ = some (.slice A2 m.rel.length c2) from rfl)
          clear kb
          clear hdep hfr HB0 KB0 HLT HB3 KB3 HL3 HAK HCK K0 K1 K2 K3 K4 K5 K6 h21
          go_simp
          exact hK W (Below.refl _ W)
        case s3 =>
          refine And.intro (by rfl) (fun tm W hS hsz hfr hdep K hK => ?_)
          change tm.size = 91 at hsz
          have t12 : tm.getD 12 undef = .agg #[.int .i64 m.n, .slice A1 m.val.length c1, .slice A2 m.rel.length c2] := hdep 2 (by rfl) (by decide)
          clear hdep hfr HB0 KB0 HLT HB3 KB3 HL3 HAK K0 K1 K2 K3 K4 K5 K6 h21
          refine wp_call _ _ _ _ _ rfl rfl (by simp [Act.eval, t12]) (by kernel_rfl) (HCK.out W hS) (fun e W9 h9 => ?_)
          obtain ⟨rfl, hb9⟩ := h9
          exact ⟨_, rfl, hK W9 hb9⟩
        case s4 =>
          refine And.intro (by rfl) (fun tm W hS hsz hfr hdep K hK => ?_)
          change tm.size = 91 at hsz
          have t13 : tm.getD 13 undef = .int .i64 cm := hdep 3 (by rfl) (by decide)
          clear hdep hfr HB0 KB0 HLT HB3 KB3 HL3 HAK HCK K0 K1 K2 K3 K4 K5 K6 h21
          go_simp
          exact hK W (Below.refl _ W)
        case s5 =>
          refine And.intro (by rfl) (fun tm W hS hsz hfr hdep K hK => ?_)
          change tm.size = 91 at hsz
          have t11 : tm.getD 11 undef = .bool false := hdep 1 (by rfl) (by decide)
          have t14 : tm.getD 14 undef = .bool false := hdep 4 (by rfl) (by decide)
          clear hdep hfr HB0 KB0 HLT HB3 KB3 HL3 HAK HCK K0 K1 K2 K3 K4 K5 K6 h21
          go_simp
          exact hK W (Below.refl _ W)
        case s8 =>
          refine And.intro (by rfl) (fun tm W hS hsz hfr hdep K hK => ?_)
          change tm.size = 91 at hsz
          have t17 : tm.getD 17 undef = .func (.func 27) #[] #[.pointer (some ⟨w.heap.size, 0, none⟩)] := hdep 7 (by rfl) (by decide)
          clear hdep hfr HB0 KB0 HLT HB3 KB3 HL3 HAK HCK K0 K1 K2 K3 K4 K5 h21
          refine wp_call _ _ _ _ _ rfl t17 (by rfl) (by kernel_rfl) (K6.out W hS) (fun e W9 h9 => ?_)
          obtain ⟨rfl, hb9⟩ := h9
          exact ⟨_, rfl, hK W9 hb9⟩
        case s21 =>
          refine And.intro (by rfl) (fun tm W hS hsz hfr hdep K hK => ?_)
          change tm.size = 91 at hsz
          have t30 : tm.getD 30 undef = .func (.func 27) #[] #[.pointer (some ⟨w.heap.size, 0, none⟩)] := hdep 20 (by rfl) (by decide)
          clear hdep hfr HB0 KB0 HLT HB3 KB3 HL3 HAK HCK K0 K1 K2 K3 K5 K6 h21
          refine wp_call _ _ _ _ _ rfl t30 (by rfl) (by kernel_rfl) (K4.out W hS) (fun e W9 h9 => ?_)
          obtain ⟨rfl, hb9⟩ := h9
          exact ⟨_, rfl, hK W9 hb9⟩
        case s34 =>
          refine And.intro (by rfl) (fun tm W hS hsz hfr hdep K hK => ?_)
          change tm.size = 91 at hsz
          have t43 : tm.getD 43 undef = .func (.func 27) #[] #[.pointer (some ⟨w.heap.size, 0, none⟩)] := hdep 33 (by rfl) (by decide)
          clear hdep hfr HB0 KB0 HLT HB3 KB3 HL3 HAK HCK K0 K1 K2 K3 K4 K6 h21
          refine wp_call _ _ _ _ _ rfl t43 (by rfl) (by kernel_rfl) (K5.out W hS) (fun e W9 h9 => ?_)
          obtain ⟨rfl, hb9⟩ := h9
          exact ⟨_, rfl, hK W9 hb9⟩
        case s47 =>
          refine And.intro (by rfl) (fun tm W hS hsz hfr hdep K hK => ?_)
          change tm.size = 91 at hsz
          have t56 : tm.getD 56 undef = .func (.func 27) #[] #[.pointer (some ⟨w.heap.size, 0, none⟩)] := hdep 46 (by rfl) (by decide)
          clear hdep hfr HB0 KB0 HLT HB3 KB3 HL3 HAK HCK K0 K1 K3 K4 K5 K6 h21
          refine wp_call _ _ _ _ _ rfl t56 (by rfl) (by kernel_rfl) (K2.out W hS) (fun e W9 h9 => ?_)
          obtain ⟨rfl, hb9⟩ := h9
          exact ⟨_, rfl, hK W9 hb9⟩
        case s56 =>
          refine And.intro (by rfl) (fun tm W hS hsz hfr hdep K hK => ?_)
          change tm.size = 91 at hsz
          have t65 : tm.getD 65 undef = .func (.func 27) #[] #[.pointer (some ⟨w.heap.size, 0, none⟩)] := hdep 55 (by rfl) (by decide)
          clear hdep hfr HB0 KB0 HLT HB3 KB3 HL3 HAK HCK K0 K2 K3 K4 K5 K6 h21
          refine wp_call _ _ _ _ _ rfl t65 (by rfl) (by kernel_rfl) (K1.out W hS) (fun e W9 h9 => ?_)
          obtain ⟨rfl, hb9⟩ := h9
          exact ⟨_, rfl, hK W9 hb9⟩
      case fin =>
        intro W hS
        have HS := Lib.hid hS
        clear hS
        simp only [fillD]
        go_simp
        go_wp2_with fail
        refine (K2.out _ HS.out).mono ?_
        rintro e wx1 ⟨rfl, hbx⟩
        have HX1 := Lib.hid (HS.out.trans (hbx.mono HS.out.size))
        clear hbx
        go_wp2_with fail
        refine (HAK.out _ HX1.out).mono ?_
        rintro e wx2 ⟨rfl, hbx⟩
        have HX2 := Lib.hid (HX1.out.trans (hbx.mono HX1.out.size))
        clear hbx
        go_wp2
        go_ret
        exact ⟨rfl, (HU.out _ HX2.out).1⟩
    case true =>
      cases a2
      case false =>
        cases a1
        case false =>
          cases a4
          case false =>
            replace K2 : Hid (∀ W, Below w3.heap.size w3 W → Calls Tryd.prog 27 #[.int .i64 2, .pointer (some ⟨w.heap.size, 0, none⟩)] W fun e w' => e = .returned (.bool false) ∧ Below W.heap.size W w') := K2
            replace K5 : Hid (∀ W, Below w3.heap.size w3 W → Calls Tryd.prog 27 #[.int .i64 5, .pointer (some ⟨w.heap.size, 0, none⟩)] W fun e w' => e = .returned (.bool false) ∧ Below W.heap.size W w') := K5
            replace K6 : Hid (∀ W, Below w3.heap.size w3 W → Calls Tryd.prog 27 #[.int .i64 6, .pointer (some ⟨w.heap.size, 0, none⟩)] W fun e w' => e = .returned (.bool false) ∧ Below W.heap.size W w') := K6
            refine wp_region_mix [.func (.func 27) #[] #[.pointer (some ⟨w.heap.size, 0, none⟩)], .bool true, .agg #[.int .i64 m.n, .slice A1 m.val.length c1, .slice A2 m.rel.length c2], .int .i64 cm, .bool true, .bool true, .bool true, .func (.func 27) #[] #[.pointer (some ⟨w.heap.size, 0, none⟩)], .bool false, .bool true, .bool true, undef, undef, undef, undef, undef, undef, .bool true, .bool true, .bool true, .func (.func 27) #[] #[.pointer (some ⟨w.heap.size, 0, none⟩)], .bool false, .bool true, .bool true, undef, undef, undef, undef, undef, undef, .bool true, .bool true, .bool true, .func (.func 27) #[] #[.pointer (some ⟨w.heap.size, 0, none⟩)], .bool false, .bool true, .bool true, undef, undef, undef, undef, undef, undef, .bool true, .bool true, .bool true, .func (.func 27) #[] #[.pointer (some ⟨w.heap.size, 0, none⟩)], .bool false, .bool true, .bool true, undef, undef, .bool true, .bool true, .bool true, .func (.func 27) #[] #[.pointer (some ⟨w.heap.size, 0, none⟩)], .bool false, .bool true, .bool true, undef, undef, .bool true, .bool true, .bool true] [10, 11, 12, 13, 14, 15, 16, 17, 18, 19, 20, 21, 22, 23, 24, 25, 26, 27, 28, 29, 30, 31, 32, 33, 34, 35, 36, 37, 38, 39, 40, 41, 42, 43, 44, 45, 46, 47, 48, 49, 50, 51, 52, 53, 54, 55, 56, 57, 58, 59, 60, 61, 62, 63, 64, 65, 66, 67, 68, 69, 70, 71, 72, 4] [1, 2, 3, 4, 5, 8, 21, 34, 47, 56] (fun W => Below w3.heap.size w3 W) (fun W W' => Below W.heap.size W W') 64 91 rfl rfl rfl rfl (by decide) (by decide) (by kernel_rfl) (by kernel_rfl) (by kernel_rfl) (fun W => Below.refl _ W) (fun W1 W2 W3 h1 h2 => h1.trans (h2.mono h1.size)) (fun W W' h h2 => h.trans (h2.mono h.size)) (Below.refl _ w3).drew (by kernel_rfl) [] rfl ?hop ?fin
            case hop =>
              refine (And.intro ?s1 (And.intro ?s2 (And.intro ?s3 (And.intro ?s4 (And.intro ?s5 (And.intro ?s8 (And.intro ?s21 (And.intro ?s34 (And.intro ?s47 (And.intro ?s56 trivial))))))))))
              case s1 =>
                refine And.intro (by rfl) (fun tm W hS hsz hfr hdep K hK => ?_)
                change tm.size = 91 at hsz
                have t10 : tm.getD 10 undef = .func (.func 27) #[] #[.pointer (some ⟨w.heap.size, 0, none⟩)] := hdep 0 (by rfl) (by decide)
                clear hdep hfr HB0 KB0 HLT HB3 KB3 HL3 HAK HCK K1 K2 K3 K4 K5 K6 h21
                refine wp_call _ _ _ _ _ rfl t10 (by rfl) (by kernel_rfl) (K0.out W hS) (fun e W9 h9 => ?_)
                obtain ⟨rfl, hb9⟩ := h9
                exact ⟨_, rfl, hK W9 hb9⟩
              case s2 =>
                refine And.intro (by rfl) (fun tm W hS hsz hfr hdep K hK => ?_)
                change tm.size = 91 at hsz
                have t1 : tm.getD 1 undef = .pointer (some ⟨w.heap.size, 0, none⟩) := hfr 1 (by rfl)
                have kb := (HU.out W hS).2
                have y0 := (Lib.cell_of_heap kb 0).trans (show _ = some (.int .i64 m.n) from rfl)
                have y1 := (Lib.cell_of_heap kb 1).trans (show _ = some (.slice A1 m.val.length c1) from rfl)
                have y2 := (Lib.cell_of_heap kb 2).trans (show _ = some (.slice A2 m.rel.length c2) from rfl)
                clear kb
                clear hdep hfr HB0 KB0 HLT HB3 KB3 HL3 HAK HCK K0 K1 K2 K3 K4 K5 K6 h21
                go_simp
                exact hK W (Below.refl _ W)
              case s3 =>
                refine And.intro (by rfl) (fun tm W hS hsz hfr hdep K hK => ?_)
                change tm.size = 91 at hsz
                have t12 : tm.getD 12 undef = .agg #[.int .i64 m.n, .slice A1 m.val.length c1, .slice A2 m.rel.length c2] := hdep 2 (by rfl) (by decide)
                clear hdep hfr HB0 KB0 HLT HB3 KB3 HL3 HAK K0 K1 K2 K3 K4 K5 K6 h21
                refine wp_call _ _ _ _ _ rfl rfl (by simp [Act.eval, t12]) (by kernel_rfl) (HCK.out W hS) (fun e W9 h9 => ?_)
                obtain ⟨rfl, hb9⟩ := h9
                exact ⟨_, rfl, hK W9 hb9⟩
              case s4 =>
                refine And.intro (by rfl) (fun tm W hS hsz hfr hdep K hK => ?_)
                change tm.size = 91 at hsz
                have t13 : tm.getD 13 undef = .int .i64 cm := hdep 3 (by rfl) (by decide)
                clear hdep hfr HB0 KB0 HLT HB3 KB3 HL3 HAK HCK K0 K1 K2 K3 K4 K5 K6 h21
                go_simp
                exact hK W (Below.refl _ W)
              case s5 =>
                refine And.intro (by rfl) (fun tm W hS hsz hfr hdep K hK => ?_)
                change tm.size = 91 at hsz
                have t11 : tm.getD 11 undef = .bool true := hdep 1 (by rfl) (by decide)
                have t14 : tm.getD 14 undef = .bool true := hdep 4 (by rfl) (by decide)
                clear hdep hfr HB0 KB0 HLT HB3 KB3 HL3 HAK HCK K0 K1 K2 K3 K4 K5 K6 h21
                go_simp
                exact hK W (Below.refl _ W)
              case s8 =>
                refine And.intro (by rfl) (fun tm W hS hsz hfr hdep K hK => ?_)
                change tm.size = 91 at hsz
                have t17 : tm.getD 17 undef = .func (.func 27) #[] #[.pointer (some ⟨w.heap.size, 0, none⟩)] := hdep 7 (by rfl) (by decide)
                clear hdep hfr HB0 KB0 HLT HB3 KB3 HL3 HAK HCK K0 K1 K2 K3 K4 K5 h21
                refine wp_call _ _ _ _ _ rfl t17 (by rfl) (by kernel_rfl) (K6.out W hS) (fun e W9 h9 => ?_)
                obtain ⟨rfl, hb9⟩ := h9
                exact ⟨_, rfl, hK W9 hb9⟩
              case s21 =>
                refine And.intro (by rfl) (fun tm W hS hsz hfr hdep K hK => ?_)
                change tm.size = 91 at hsz
                have t30 : tm.getD 30 undef = .func (.func 27) #[] #[.pointer (some ⟨w.heap.size, 0, none⟩)] := hdep 20 (by rfl) (by decide)
                clear hdep hfr HB0 KB0 HLT HB3 KB3 HL3 HAK HCK K0 K1 K2 K3 K5 K6 h21
                refine wp_call _ _ _ _ _ rfl t30 (by rfl) (by kernel_rfl) (K4.out W hS) (fun e W9 h9 => ?_)
                obtain ⟨rfl, hb9⟩ := h9
                exact ⟨_, rfl, hK W9 hb9⟩
              case s34 =>
                refine And.intro (by rfl) (fun tm W hS hsz hfr hdep K hK => ?_)
                change tm.size = 91 at hsz
                have t43 : tm.getD 43 undef = .func (.func 27) #[] #[.pointer (some ⟨w.heap.size, 0, none⟩)] := hdep 33 (by rfl) (by decide)
                clear hdep hfr HB0 KB0 HLT HB3 KB3 HL3 HAK HCK K0 K1 K2 K3 K4 K6 h21
                refine wp_call _ _ _ _ _ rfl t43 (by rfl) (by kernel_rfl) (K5.out W hS) (fun e W9 h9 => ?_)
                obtain ⟨rfl, hb9⟩ := h9
                exact ⟨_, rfl, hK W9 hb9⟩
              case s47 =>
                refine And.intro (by rfl) (fun tm W hS hsz hfr hdep K hK => ?_)
                change tm.size = 91 at hsz
                have t56 : tm.getD 56 undef = .func (.func 27) #[] #[.pointer (some ⟨w.heap.size, 0, none⟩)] := hdep 46 (by rfl) (by decide)
                clear hdep hfr HB0 KB0 HLT HB3 KB3 HL3 HAK HCK K0 K1 K3 K4 K5 K6 h21
                refine wp_call _ _ _ _ _ rfl t56 (by rfl) (by kernel_rfl) (K2.out W hS) (fun e W9 h9 => ?_)
                obtain ⟨rfl, hb9⟩ := h9
                exact ⟨_, rfl, hK W9 hb9⟩
              case s56 =>
                refine And.intro (by rfl) (fun tm W hS hsz hfr hdep K hK => ?_)
                change tm.size = 91 at hsz
                have t65 : tm.getD 65 undef = .func (.func 27) #[] #[.pointer (some ⟨w.heap.size, 0, none⟩)] := hdep 55 (by rfl) (by decide)
                clear hdep hfr HB0 KB0 HLT HB3 KB3 HL3 HAK HCK K0 K2 K3 K4 K5 K6 h21
                refine wp_call _ _ _ _ _ rfl t65 (by rfl) (by kernel_rfl) (K1.out W hS) (fun e W9 h9 => ?_)
                obtain ⟨rfl, hb9⟩ := h9
                exact ⟨_, rfl, hK W9 hb9⟩
            case fin =>
              intro W hS
              have HS := Lib.hid hS
              clear hS
              simp only [fillD]
              go_simp
              go_wp2_with fail
              refine (K2.out _ HS.out).mono ?_
              rintro e wx1 ⟨rfl, hbx⟩
              have HX1 := Lib.hid (HS.out.trans (hbx.mono HS.out.size))
              clear hbx
              go_wp2_with fail
              refine (HAK.out _ HX1.out).mono ?_
              rintro e wx2 ⟨rfl, hbx⟩
              have HX2 := Lib.hid (HX1.out.trans (hbx.mono HX1.out.size))
              clear hbx
              go_wp2
              go_ret
              exact ⟨rfl, (HU.out _ HX2.out).1⟩
          case true =>
            replace K2 : Hid (∀ W, Below w3.heap.size w3 W → Calls Tryd.prog 27 #[.int .i64 2, .pointer (some ⟨w.heap.size, 0, none⟩)] W fun e w' => e = .returned (.bool false) ∧ Below W.heap.size W w') := K2
            replace K5 : Hid (∀ W, Below w3.heap.size w3 W → Calls Tryd.prog 27 #[.int .i64 5, .pointer (some ⟨w.heap.size, 0, none⟩)] W fun e w' => e = .returned (.bool false) ∧ Below W.heap.size W w') := K5
            replace K6 : Hid (∀ W, Below w3.heap.size w3 W → Calls Tryd.prog 27 #[.int .i64 6, .pointer (some ⟨w.heap.size, 0, none⟩)] W fun e w' => e = .returned (.bool false) ∧ Below W.heap.size W w') := K6
            refine wp_region_mix [.func (.func 27) #[] #[.pointer (some ⟨w.heap.size, 0, none⟩)], .bool true, .agg #[.int .i64 m.n, .slice A1 m.val.length c1, .slice A2 m.rel.length c2], .int .i64 cm, .bool true, .bool true, .bool true, .func (.func 27) #[] #[.pointer (some ⟨w.heap.size, 0, none⟩)], .bool false, .bool true, .bool true, undef, undef, undef, undef, undef, undef, .bool true, .bool true, .bool true, .func (.func 27) #[] #[.pointer (some ⟨w.heap.size, 0, none⟩)], .bool false, .bool true, .bool true, undef, undef, undef, undef, undef, undef, .bool true, .bool true, .bool true, .func (.func 27) #[] #[.pointer (some ⟨w.heap.size, 0, none⟩)], .bool false, .bool true, .bool true, undef, undef, undef, undef, undef, undef, .bool true, .bool true, .bool true, .func (.func 27) #[] #[.pointer (some ⟨w.heap.size, 0, none⟩)], .bool false, .bool true, .bool true, undef, undef, .bool true, .bool true, .bool true, .func (.func 27) #[] #[.pointer (some ⟨w.heap.size, 0, none⟩)], .bool false, .bool true, .bool true, undef, undef, .bool true, .bool true, .bool true] [10, 11, 12, 13, 14, 15, 16, 17, 18, 19, 20, 21, 22, 23, 24, 25, 26, 27, 28, 29, 30, 31, 32, 33, 34, 35, 36, 37, 38, 39, 40, 41, 42, 43, 44, 45, 46, 47, 48, 49, 50, 51, 52, 53, 54, 55, 56, 57, 58, 59, 60, 61, 62, 63, 64, 65, 66, 67, 68, 69, 70, 71, 72, 4] [1, 2, 3, 4, 5, 8, 21, 34, 47, 56] (fun W => Below w3.heap.size w3 W) (fun W W' => Below W.heap.size W W') 64 91 rfl rfl rfl rfl (by decide) (by decide) (by kernel_rfl) (by kernel_rfl) (by kernel_rfl) (fun W => Below.refl _ W) (fun W1 W2 W3 h1 h2 => h1.trans (h2.mono h1.size)) (fun W W' h h2 => h.trans (h2.mono h.size)) (Below.refl _ w3).drew (by kernel_rfl) [] rfl ?hop ?fin
            case hop =>
              refine (And.intro ?s1 (And.intro ?s2 (And.intro ?s3 (And.intro ?s4 (And.intro ?s5 (And.intro ?s8 (And.intro ?s21 (And.intro ?s34 (And.intro ?s47 (And.intro ?s56 trivial))))))))))
              case s1 =>
                refine And.intro (by rfl) (fun tm W hS hsz hfr hdep K hK => ?_)
                change tm.size = 91 at hsz
                have t10 : tm.getD 10 undef = .func (.func 27) #[] #[.pointer (some ⟨w.heap.size, 0, none⟩)] := hdep 0 (by rfl) (by decide)
                clear hdep hfr HB0 KB0 HLT HB3 KB3 HL3 HAK HCK K1 K2 K3 K4 K5 K6 h21
                refine wp_call _ _ _ _ _ rfl t10 (by rfl) (by kernel_rfl) (K0.out W hS) (fun e W9 h9 => ?_)
                obtain ⟨rfl, hb9⟩ := h9
                exact ⟨_, rfl, hK W9 hb9⟩
              case s2 =>
                refine And.intro (by rfl) (fun tm W hS hsz hfr hdep K hK => ?_)
                change tm.size = 91 at hsz
                have t1 : tm.getD 1 undef = .pointer (some ⟨w.heap.size, 0, none⟩) := hfr 1 (by rfl)
                have kb := (HU.out W hS).2
                have y0 := (Lib.cell_of_heap kb 0).trans (show _ = some (.int .i64 m.n) from rfl)
                have y1 := (Lib.cell_of_heap kb 1).trans (show _ = some (.slice A1 m.val.length c1) from rfl)
                have y2 := (Lib.cell_of_heap kb 2).trans (show _ = some (.slice A2 m.rel.length c2) from rfl)
                clear kb
                clear hdep hfr HB0 KB0 HLT HB3 KB3 HL3 HAK HCK K0 K1 K2 K3 K4 K5 K6 h21
                go_simp
                exact hK W (Below.refl _ W)
              case s3 =>
                refine And.intro (by rfl) (fun tm W hS hsz hfr hdep K hK => ?_)
                change tm.size = 91 at hsz
                have t12 : tm.getD 12 undef = .agg #[.int .i64 m.n, .slice A1 m.val.length c1, .slice A2 m.rel.length c2] := hdep 2 (by rfl) (by decide)
                clear hdep hfr HB0 KB0 HLT HB3 KB3 HL3 HAK K0 K1 K2 K3 K4 K5 K6 h21
                refine wp_call _ _ _ _ _ rfl rfl (by simp [Act.eval, t12]) (by kernel_rfl) (HCK.out W hS) (fun e W9 h9 => ?_)
                obtain ⟨rfl, hb9⟩ := h9
                exact ⟨_, rfl, hK W9 hb9⟩
              case s4 =>
                refine And.intro (by rfl) (fun tm W hS hsz hfr hdep K hK => ?_)
                change tm.size = 91 at hsz
                have t13 : tm.getD 13 undef = .int .i64 cm := hdep 3 (by rfl) (by decide)
                clear hdep hfr HB0 KB0 HLT HB3 KB3 HL3 HAK HCK K0 K1 K2 K3 K4 K5 K6 h21
                go_simp
                exact hK W (Below.refl _ W)
              case s5 =>
                refine And.intro (by rfl) (fun tm W hS hsz hfr hdep K hK => ?_)
                change tm.size = 91 at hsz
                have t11 : tm.getD 11 undef = .bool true := hdep 1 (by rfl) (by decide)
                have t14 : tm.getD 14 undef = .bool true := hdep 4 (by rfl) (by decide)
                clear hdep hfr HB0 KB0 HLT HB3 KB3 HL3 HAK HCK K0 K1 K2 K3 K4 K5 K6 h21
                go_simp
                exact hK W (Below.refl _ W)
              case s8 =>
                refine And.intro (by rfl) (fun tm W hS hsz hfr hdep K hK => ?_)
                change tm.size = 91 at hsz
                have t17 : tm.getD 17 undef = .func (.func 27) #[] #[.pointer (some ⟨w.heap.size, 0, none⟩)] := hdep 7 (by rfl) (by decide)
                clear hdep hfr HB0 KB0 HLT HB3 KB3 HL3 HAK HCK K0 K1 K2 K3 K4 K5 h21
                refine wp_call _ _ _ _ _ rfl t17 (by rfl) (by kernel_rfl) (K6.out W hS) (fun e W9 h9 => ?_)
                obtain ⟨rfl, hb9⟩ := h9
                exact ⟨_, rfl, hK W9 hb9⟩
              case s21 =>
                refine And.intro (by rfl) (fun tm W hS hsz hfr hdep K hK => ?_)
                change tm.size = 91 at hsz
                have t30 : tm.getD 30 undef = .func (.func 27) #[] #[.pointer (some ⟨w.heap.size, 0, none⟩)] := hdep 20 (by rfl) (by decide)
                clear hdep hfr HB0 KB0 HLT HB3 KB3 HL3 HAK HCK K0 K1 K2 K3 K5 K6 h21
                refine wp_call _ _ _ _ _ rfl t30 (by rfl) (by kernel_rfl) (K4.out W hS) (fun e W9 h9 => ?_)
                obtain ⟨rfl, hb9⟩ := h9
                exact ⟨_, rfl, hK W9 hb9⟩
              case s34 =>
                refine And.intro (by rfl) (fun tm W hS hsz hfr hdep K hK => ?_)
                change tm.size = 91 at hsz
                have t43 : tm.getD 43 undef = .func (.func 27) #[] #[.pointer (some ⟨w.heap.size, 0, none⟩)] := hdep 33 (by rfl) (by decide)
                clear hdep hfr HB0 KB0 HLT HB3 KB3 HL3 HAK HCK K0 K1 K2 K3 K4 K6 h21
                refine wp_call _ _ _ _ _ rfl t43 (by rfl) (by kernel_rfl) (K5.out W hS) (fun e W9 h9 => ?_)
                obtain ⟨rfl, hb9⟩ := h9
                exact ⟨_, rfl, hK W9 hb9⟩
              case s47 =>
                refine And.intro (by rfl) (fun tm W hS hsz hfr hdep K hK => ?_)
                change tm.size = 91 at hsz
                have t56 : tm.getD 56 undef = .func (.func 27) #[] #[.pointer (some ⟨w.heap.size, 0, none⟩)] := hdep 46 (by rfl) (by decide)
                clear hdep hfr HB0 KB0 HLT HB3 KB3 HL3 HAK HCK K0 K1 K3 K4 K5 K6 h21
                refine wp_call _ _ _ _ _ rfl t56 (by rfl) (by kernel_rfl) (K2.out W hS) (fun e W9 h9 => ?_)
                obtain ⟨rfl, hb9⟩ := h9
                exact ⟨_, rfl, hK W9 hb9⟩
              case s56 =>
                refine And.intro (by rfl) (fun tm W hS hsz hfr hdep K hK => ?_)
                change tm.size = 91 at hsz
                have t65 : tm.getD 65 undef = .func (.func 27) #[] #[.pointer (some ⟨w.heap.size, 0, none⟩)] := hdep 55 (by rfl) (by decide)
                clear hdep hfr HB0 KB0 HLT HB3 KB3 HL3 HAK HCK K0 K2 K3 K4 K5 K6 h21
                refine wp_call _ _ _ _ _ rfl t65 (by rfl) (by kernel_rfl) (K1.out W hS) (fun e W9 h9 => ?_)
                obtain ⟨rfl, hb9⟩ := h9
                exact ⟨_, rfl, hK W9 hb9⟩
            case fin =>
              intro W hS
              have HS := Lib.hid hS
              clear hS
              simp only [fillD]
              go_simp
              go_wp2_with fail
              refine (K2.out _ HS.out).mono ?_
              rintro e wx1 ⟨rfl, hbx⟩
              have HX1 := Lib.hid (HS.out.trans (hbx.mono HS.out.size))
              clear hbx
              go_wp2_with fail
              refine (HAK.out _ HX1.out).mono ?_
              rintro e wx2 ⟨rfl, hbx⟩
              have HX2 := Lib.hid (HX1.out.trans (hbx.mono HX1.out.size))
              clear hbx
              go_wp2
              go_ret
              exact ⟨rfl, (HU.out _ HX2.out).1⟩
        case true =>
          cases a4
          case false =>
            replace K2 : Hid (∀ W, Below w3.heap.size w3 W → Calls Tryd.prog 27 #[.int .i64 2, .pointer (some ⟨w.heap.size, 0, none⟩)] W fun e w' => e = .returned (.bool false) ∧ Below W.heap.size W w') := K2
            replace K5 : Hid (∀ W, Below w3.heap.size w3 W → Calls Tryd.prog 27 #[.int .i64 5, .pointer (some ⟨w.heap.size, 0, none⟩)] W fun e w' => e = .returned (.bool false) ∧ Below W.heap.size W w') := K5
            replace K6 : Hid (∀ W, Below w3.heap.size w3 W → Calls Tryd.prog 27 #[.int .i64 6, .pointer (some ⟨w.heap.size, 0, none⟩)] W fun e w' => e = .returned (.bool false) ∧ Below W.heap.size W w') := K6
            refine wp_region_mix [.func (.func 27) #[] #[.pointer (some ⟨w.heap.size, 0, none⟩)], .bool true, .agg #[.int .i64 m.n, .slice A1 m.val.length c1, .slice A2 m.rel.length c2], .int .i64 cm, .bool true, .bool true, .bool true, .func (.func 27) #[] #[.pointer (some ⟨w.heap.size, 0, none⟩)], .bool false, .bool true, .bool true, undef, undef, undef, undef, undef, undef, .bool true, .bool true, .bool true, .func (.func 27) #[] #[.pointer (some ⟨w.heap.size, 0, none⟩)], .bool false, .bool true, .bool true, undef, undef, undef, undef, undef, undef, .bool true, .bool true, .bool true, .func (.func 27) #[] #[.pointer (some ⟨w.heap.size, 0, none⟩)], .bool false, .bool true, .bool true, undef, undef, undef, undef, undef, undef, .bool true, .bool true, .bool true, .func (.func 27) #[] #[.pointer (some ⟨w.heap.size, 0, none⟩)], .bool false, .bool true, .bool true, undef, undef, .bool true, .bool true, .bool true, .func (.func 27) #[] #[.pointer (some ⟨w.heap.size, 0, none⟩)], .bool true, .bool false, .bool false, .func (.func 27) #[] #[.pointer (some ⟨w.heap.size, 0, none⟩)], .bool true, .bool true, .bool true, .bool true] [10, 11, 12, 13, 14, 15, 16, 17, 18, 19, 20, 21, 22, 23, 24, 25, 26, 27, 28, 29, 30, 31, 32, 33, 34, 35, 36, 37, 38, 39, 40, 41, 42, 43, 44, 45, 46, 47, 48, 49, 50, 51, 52, 53, 54, 55, 56, 57, 58, 59, 60, 61, 62, 63, 64, 65, 66, 67, 68, 69, 70, 71, 72, 4] [1, 2, 3, 4, 5, 8, 21, 34, 47, 56, 60] (fun W => Below w3.heap.size w3 W) (fun W W' => Below W.heap.size W W') 64 91 rfl rfl rfl rfl (by decide) (by decide) (by kernel_rfl) (by kernel_rfl) (by kernel_rfl) (fun W => Below.refl _ W) (fun W1 W2 W3 h1 h2 => h1.trans (h2.mono h1.size)) (fun W W' h h2 => h.trans (h2.mono h.size)) (Below.refl _ w3).drew (by kernel_rfl) [] rfl ?hop ?fin
            case hop =>
              refine (And.intro ?s1 (And.intro ?s2 (And.intro ?s3 (And.intro ?s4 (And.intro ?s5 (And.intro ?s8 (And.intro ?s21 (And.intro ?s34 (And.intro ?s47 (And.intro ?s56 (And.intro ?s60 trivial)))))))))))
              case s1 =>
                refine And.intro (by rfl) (fun tm W hS hsz hfr hdep K hK => ?_)
                change tm.size = 91 at hsz
                have t10 : tm.getD 10 undef = .func (.func 27) #[] #[.pointer (some ⟨w.heap.size, 0, none⟩)] := hdep 0 (by rfl) (by decide)
                clear hdep hfr HB0 KB0 HLT HB3 KB3 HL3 HAK HCK K1 K2 K3 K4 K5 K6 h21
                refine wp_call _ _ _ _ _ rfl t10 (by rfl) (by kernel_rfl) (K0.out W hS) (fun e W9 h9 => ?_)
                obtain ⟨rfl, hb9⟩ := h9
                exact ⟨_, rfl, hK W9 hb9⟩
              case s2 =>
                refine And.intro (by rfl) (fun tm W hS hsz hfr hdep K hK => ?_)
                change tm.size = 91 at hsz
                have t1 : tm.getD 1 undef = .pointer (some ⟨w.heap.size, 0, none⟩) := hfr 1 (by rfl)
                have kb := (HU.out W hS).2
                have y0 := (Lib.cell_of_heap kb 0).trans (show _ = some (.int .i64 m.n) from rfl)
                have y1 := (Lib.cell_of_heap kb 1).trans (show _ = some (.slice A1 m.val.length c1) from rfl)
                have y2 := (Lib.cell_of_heap kb 2).trans (show _ = some (.slice A2 m.rel.length c2) from rfl)
                clear kb
                clear hdep hfr HB0 KB0 HLT HB3 KB3 HL3 HAK HCK K0 K1 K2 K3 K4 K5 K6 h21
                go_simp
                exact hK W (Below.refl _ W)
              case s3 =>
                refine And.intro (by rfl) (fun tm W hS hsz hfr hdep K hK => ?_)
                change tm.size = 91 at hsz
                have t12 : tm.getD 12 undef = .agg #[.int .i64 m.n, .slice A1 m.val.length c1, .slice A2 m.rel.length c2] := hdep 2 (by rfl) (by decide)
                clear hdep hfr HB0 KB0 HLT HB3 KB3 HL3 HAK K0 K1 K2 K3 K4 K5 K6 h21
                refine wp_call _ _ _ _ _ rfl rfl (by simp [Act.eval, t12]) (by kernel_rfl) (HCK.out W hS) (fun e W9 h9 => ?_)
                obtain ⟨rfl, hb9⟩ := h9
                exact ⟨_, rfl, hK W9 hb9⟩
              case s4 =>
                refine And.intro (by rfl) (fun tm W hS hsz hfr hdep K hK => ?_)
                change tm.size = 91 at hsz
                have t13 : tm.getD 13 undef = .int .i64 cm := hdep 3 (by rfl) (by decide)
                clear hdep hfr HB0 KB0 HLT HB3 KB3 HL3 HAK HCK K0 K1 K2 K3 K4 K5 K6 h21
                go_simp
                exact hK W (Below.refl _ W)
              case s5 =>
                refine And.intro (by rfl) (fun tm W hS hsz hfr hdep K hK => ?_)
                change tm.size = 91 at hsz
                have t11 : tm.getD 11 undef = .bool true := hdep 1 (by rfl) (by decide)
                have t14 : tm.getD 14 undef = .bool true := hdep 4 (by rfl) (by decide)
                clear hdep hfr HB0 KB0 HLT HB3 KB3 HL3 HAK HCK K0 K1 K2 K3 K4 K5 K6 h21
                go_simp
                exact hK W (Below.refl _ W)
              case s8 =>
                refine And.intro (by rfl) (fun tm W hS hsz hfr hdep K hK => ?_)
                change tm.size = 91 at hsz
                have t17 : tm.getD 17 undef = .func (.func 27) #[] #[.pointer (some ⟨w.heap.size, 0, none⟩)] := hdep 7 (by rfl) (by decide)
                clear hdep hfr HB0 KB0 HLT HB3 KB3 HL3 HAK HCK K0 K1 K2 K3 K4 K5 h21
                refine wp_call _ _ _ _ _ rfl t17 (by rfl) (by kernel_rfl) (K6.out W hS) (fun e W9 h9 => ?_)
                obtain ⟨rfl, hb9⟩ := h9
                exact ⟨_, rfl, hK W9 hb9⟩
              case s21 =>
                refine And.intro (by rfl) (fun tm W hS hsz hfr hdep K hK => ?_)
                change tm.size = 91 at hsz
                have t30 : tm.getD 30 undef = .func (.func 27) #[] #[.pointer (some ⟨w.heap.size, 0, none⟩)] := hdep 20 (by rfl) (by decide)
                clear hdep hfr HB0 KB0 HLT HB3 KB3 HL3 HAK HCK K0 K1 K2 K3 K5 K6 h21
                refine wp_call _ _ _ _ _ rfl t30 (by rfl) (by kernel_rfl) (K4.out W hS) (fun e W9 h9 => ?_)
                obtain ⟨rfl, hb9⟩ := h9
                exact ⟨_, rfl, hK W9 hb9⟩
              case s34 =>
                refine And.intro (by rfl) (fun tm W hS hsz hfr hdep K hK => ?_)
                change tm.size = 91 at hsz
                have t43 : tm.getD 43 undef = .func (.func 27) #[] #[.pointer (some ⟨w.heap.size, 0, none⟩)] := hdep 33 (by rfl) (by decide)
                clear hdep hfr HB0 KB0 HLT HB3 KB3 HL3 HAK HCK K0 K1 K2 K3 K4 K6 h21
                refine wp_call _ _ _ _ _ rfl t43 (by rfl) (by kernel_rfl) (K5.out W hS) (fun e W9 h9 => ?_)
                obtain ⟨rfl, hb9⟩ := h9
                exact ⟨_, rfl, hK W9 hb9⟩
              case s47 =>
                refine And.intro (by rfl) (fun tm W hS hsz hfr hdep K hK => ?_)
                change tm.size = 91 at hsz
                have t56 : tm.getD 56 undef = .func (.func 27) #[] #[.pointer (some ⟨w.heap.size, 0, none⟩)] := hdep 46 (by rfl) (by decide)
                clear hdep hfr HB0 KB0 HLT HB3 KB3 HL3 HAK HCK K0 K1 K3 K4 K5 K6 h21
                refine wp_call _ _ _ _ _ rfl t56 (by rfl) (by kernel_rfl) (K2.out W hS) (fun e W9 h9 => ?_)
                obtain ⟨rfl, hb9⟩ := h9
                exact ⟨_, rfl, hK W9 hb9⟩
              case s56 =>
                refine And.intro (by rfl) (fun tm W hS hsz hfr hdep K hK => ?_)
                change tm.size = 91 at hsz
                have t65 : tm.getD 65 undef = .func (.func 27) #[] #[.pointer (some ⟨w.heap.size, 0, none⟩)] := hdep 55 (by rfl) (by decide)
                clear hdep hfr HB0 KB0 HLT HB3 KB3 HL3 HAK HCK K0 K2 K3 K4 K5 K6 h21
                refine wp_call _ _ _ _ _ rfl t65 (by rfl) (by kernel_rfl) (K1.out W hS) (fun e W9 h9 => ?_)
                obtain ⟨rfl, hb9⟩ := h9
                exact ⟨_, rfl, hK W9 hb9⟩
              case s60 =>
                refine And.intro (by rfl) (fun tm W hS hsz hfr hdep K hK => ?_)
                change tm.size = 91 at hsz
                have t69 : tm.getD 69 undef = .func (.func 27) #[] #[.pointer (some ⟨w.heap.size, 0, none⟩)] := hdep 59 (by rfl) (by decide)
                clear hdep hfr HB0 KB0 HLT HB3 KB3 HL3 HAK HCK K1 K2 K3 K4 K5 K6 h21
                refine wp_call _ _ _ _ _ rfl t69 (by rfl) (by kernel_rfl) (K0.out W hS) (fun e W9 h9 => ?_)
                obtain ⟨rfl, hb9⟩ := h9
                exact ⟨_, rfl, hK W9 hb9⟩
            case fin =>
              intro W hS
              have HS := Lib.hid hS
              clear hS
              simp only [fillD]
              go_simp
              go_wp2_with fail
              refine (K2.out _ HS.out).mono ?_
              rintro e wx1 ⟨rfl, hbx⟩
              have HX1 := Lib.hid (HS.out.trans (hbx.mono HS.out.size))
              clear hbx
              go_wp2_with fail
              refine (HAK.out _ HX1.out).mono ?_
              rintro e wx2 ⟨rfl, hbx⟩
              have HX2 := Lib.hid (HX1.out.trans (hbx.mono HX1.out.size))
              clear hbx
              go_wp2
              go_ret
              exact ⟨rfl, (HU.out _ HX2.out).1⟩
          case true =>
            cases a5
            case false =>
              replace K2 : Hid (∀ W, Below w3.heap.size w3 W → Calls Tryd.prog 27 #[.int .i64 2, .pointer (some ⟨w.heap.size, 0, none⟩)] W fun e w' => e = .returned (.bool false) ∧ Below W.heap.size W w') := K2
              replace K5 : Hid (∀ W, Below w3.heap.size w3 W → Calls Tryd.prog 27 #[.int .i64 5, .pointer (some ⟨w.heap.size, 0, none⟩)] W fun e w' => e = .returned (.bool false) ∧ Below W.heap.size W w') := K5
              replace K6 : Hid (∀ W, Below w3.heap.size w3 W → Calls Tryd.prog 27 #[.int .i64 6, .pointer (some ⟨w.heap.size, 0, none⟩)] W fun e w' => e = .returned (.bool false) ∧ Below W.heap.size W w') := K6
              refine wp_region_mix [.func (.func 27) #[] #[.pointer (some ⟨w.heap.size, 0, none⟩)], .bool true, .agg #[.int .i64 m.n, .slice A1 m.val.length c1, .slice A2 m.rel.length c2], .int .i64 cm, .bool true, .bool true, .bool true, .func (.func 27) #[] #[.pointer (some ⟨w.heap.size, 0, none⟩)], .bool false, .bool true, .bool true, undef, undef, undef, undef, undef, undef, .bool true, .bool true, .bool true, .func (.func 27) #[] #[.pointer (some ⟨w.heap.size, 0, none⟩)], .bool false, .bool true, .bool true, undef, undef, undef, undef, undef, undef, .bool true, .bool true, .bool true, .func (.func 27) #[] #[.pointer (some ⟨w.heap.size, 0, none⟩)], .bool false, .bool true, .bool true, undef, undef, undef, undef, undef, undef, .bool true, .bool true, .bool true, .func (.func 27) #[] #[.pointer (some ⟨w.heap.size, 0, none⟩)], .bool false, .bool true, .bool true, undef, undef, .bool true, .bool true, .bool true, .func (.func 27) #[] #[.pointer (some ⟨w.heap.size, 0, none⟩)], .bool true, .bool false, .bool false, .func (.func 27) #[] #[.pointer (some ⟨w.heap.size, 0, none⟩)], .bool true, .bool true, .bool true, .bool true] [10, 11, 12, 13, 14, 15, 16, 17, 18, 19, 20, 21, 22, 23, 24, 25, 26, 27, 28, 29, 30, 31, 32, 33, 34, 35, 36, 37, 38, 39, 40, 41, 42, 43, 44, 45, 46, 47, 48, 49, 50, 51, 52, 53, 54, 55, 56, 57, 58, 59, 60, 61, 62, 63, 64, 65, 66, 67, 68, 69, 70, 71, 72, 4] [1, 2, 3, 4, 5, 8, 21, 34, 47, 56, 60] (fun W => Below w3.heap.size w3 W) (fun W W' => Below W.heap.size W W') 64 91 rfl rfl rfl rfl (by decide) (by decide) (by kernel_rfl) (by kernel_rfl) (by kernel_rfl) (fun W => Below.refl _ W) (fun W1 W2 W3 h1 h2 => h1.trans (h2.mono h1.size)) (fun W W' h h2 => h.trans (h2.mono h.size)) (Below.refl _ w3).drew (by kernel_rfl) [] rfl ?hop ?fin
              case hop =>
                refine (And.intro ?s1 (And.intro ?s2 (And.intro ?s3 (And.intro ?s4 (And.intro ?s5 (And.intro ?s8 (And.intro ?s21 (And.intro ?s34 (And.intro ?s47 (And.intro ?s56 (And.intro ?s60 trivial)))))))))))
                case s1 =>
                  refine And.intro (by rfl) (fun tm W hS hsz hfr hdep K hK => ?_)
                  change tm.size = 91 at hsz
                  have t10 : tm.getD 10 undef = .func (.func 27) #[] #[.pointer (some ⟨w.heap.size, 0, none⟩)] := hdep 0 (by rfl) (by decide)
                  clear hdep hfr HB0 KB0 HLT HB3 KB3 HL3 HAK HCK K1 K2 K3 K4 K5 K6 h21
                  refine wp_call _ _ _ _ _ rfl t10 (by rfl) (by kernel_rfl) (K0.out W hS) (fun e W9 h9 => ?_)
                  obtain ⟨rfl, hb9⟩ := h9
                  exact ⟨_, rfl, hK W9 hb9⟩
                case s2 =>
                  refine And.intro (by rfl) (fun tm W hS hsz hfr hdep K hK => ?_)
                  change tm.size = 91 at hsz
                  have t1 : tm.getD 1 undef = .pointer (some ⟨w.heap.size, 0, none⟩) := hfr 1 (by rfl)
                  have kb := (HU.out W hS).2
                  have y0 := (Lib.cell_of_heap kb 0).trans (show _ = some (.int .i64 m.n) from rfl)
                  have y1 := (Lib.cell_of_heap kb 1).trans (show _ = some (.slice A1 m.val.length c1) from rfl)
                  have y2 := (Lib.cell_of_heap kb 2).trans (show _ = some (.slice A2 m.rel.length c2) from rfl)
                  clear kb
                  clear hdep hfr HB0 KB0 HLT HB3 KB3 HL3 HAK HCK K0 K1 K2 K3 K4 K5 K6 h21
                  go_simp
                  exact hK W (Below.refl _ W)
                case s3 =>
                  refine And.intro (by rfl) (fun tm W hS hsz hfr hdep K hK => ?_)
                  change tm.size = 91 at hsz
                  have t12 : tm.getD 12 undef = .agg #[.int .i64 m.n, .slice A1 m.val.length c1, .slice A2 m.rel.length c2] := hdep 2 (by rfl) (by decide)
                  clear hdep hfr HB0 KB0 HLT HB3 KB3 HL3 HAK K0 K1 K2 K3 K4 K5 K6 h21
                  refine wp_call _ _ _ _ _ rfl rfl (by simp [Act.eval, t12]) (by kernel_rfl) (HCK.out W hS) (fun e W9 h9 => ?_)
                  obtain ⟨rfl, hb9⟩ := h9
                  exact ⟨_, rfl, hK W9 hb9⟩
                case s4 =>
                  refine And.intro (by rfl) (fun tm W hS hsz hfr hdep K hK => ?_)
                  change tm.size = 91 at hsz
                  have t13 : tm.getD 13 undef = .int .i64 cm := hdep 3 (by rfl) (by decide)
                  clear hdep hfr HB0 KB0 HLT HB3 KB3 HL3 HAK HCK K0 K1 K2 K3 K4 K5 K6 h21
                  go_simp
                  exact hK W (Below.refl _ W)
                case s5 =>
                  refine And.intro (by rfl) (fun tm W hS hsz hfr hdep K hK => ?_)
                  change tm.size = 91 at hsz
                  have t11 : tm.getD 11 undef = .bool true := hdep 1 (by rfl) (by decide)
                  have t14 : tm.getD 14 undef = .bool true := hdep 4 (by rfl) (by decide)
                  clear hdep hfr HB0 KB0 HLT HB3 KB3 HL3 HAK HCK K0 K1 K2 K3 K4 K5 K6 h21
                  go_simp
                  exact hK W (Below.refl _ W)
                case s8 =>
                  refine And.intro (by rfl) (fun tm W hS hsz hfr hdep K hK => ?_)
                  change tm.size = 91 at hsz
                  have t17 : tm.getD 17 undef = .func (.func 27) #[] #[.pointer (some ⟨w.heap.size, 0, none⟩)] := hdep 7 (by rfl) (by decide)
                  clear hdep hfr HB0 KB0 HLT HB3 KB3 HL3 HAK HCK K0 K1 K2 K3 K4 K5 h21
                  refine wp_call _ _ _ _ _ rfl t17 (by rfl) (by kernel_rfl) (K6.out W hS) (fun e W9 h9 => ?_)
                  obtain ⟨rfl, hb9⟩ := h9
                  exact ⟨_, rfl, hK W9 hb9⟩
                case s21 =>
                  refine And.intro (by rfl) (fun tm W hS hsz hfr hdep K hK => ?_)
                  change tm.size = 91 at hsz
                  have t30 : tm.getD 30 undef = .func (.func 27) #[] #[.pointer (some ⟨w.heap.size, 0, none⟩)] := hdep 20 (by rfl) (by decide)
                  clear hdep hfr HB0 KB0 HLT HB3 KB3 HL3 HAK HCK K0 K1 K2 K3 K5 K6 h21
                  refine wp_call _ _ _ _ _ rfl t30 (by rfl) (by kernel_rfl) (K4.out W hS) (fun e W9 h9 => ?_)
                  obtain ⟨rfl, hb9⟩ := h9
                  exact ⟨_, rfl, hK W9 hb9⟩
                case s34 =>
                  refine And.intro (by rfl) (fun tm W hS hsz hfr hdep K hK => ?_)
                  change tm.size = 91 at hsz
                  have t43 : tm.getD 43 undef = .func (.func 27) #[] #[.pointer (some ⟨w.heap.size, 0, none⟩)] := hdep 33 (by rfl) (by decide)
                  clear hdep hfr HB0 KB0 HLT HB3 KB3 HL3 HAK HCK K0 K1 K2 K3 K4 K6 h21
                  refine wp_call _ _ _ _ _ rfl t43 (by rfl) (by kernel_rfl) (K5.out W hS) (fun e W9 h9 => ?_)
                  obtain ⟨rfl, hb9⟩ := h9
                  exact ⟨_, rfl, hK W9 hb9⟩
                case s47 =>
                  refine And.intro (by rfl) (fun tm W hS hsz hfr hdep K hK => ?_)
                  change tm.size = 91 at hsz
                  have t56 : tm.getD 56 undef = .func (.func 27) #[] #[.pointer (some ⟨w.heap.size, 0, none⟩)] := hdep 46 (by rfl) (by decide)
                  clear hdep hfr HB0 KB0 HLT HB3 KB3 HL3 HAK HCK K0 K1 K3 K4 K5 K6 h21
                  refine wp_call _ _ _ _ _ rfl t56 (by rfl) (by kernel_rfl) (K2.out W hS) (fun e W9 h9 => ?_)
                  obtain ⟨rfl, hb9⟩ := h9
                  exact ⟨_, rfl, hK W9 hb9⟩
                case s56 =>
                  refine And.intro (by rfl) (fun tm W hS hsz hfr hdep K hK => ?_)
                  change tm.size = 91 at hsz
                  have t65 : tm.getD 65 undef = .func (.func 27) #[] #[.pointer (some ⟨w.heap.size, 0, none⟩)] := hdep 55 (by rfl) (by decide)
                  clear hdep hfr HB0 KB0 HLT HB3 KB3 HL3 HAK HCK K0 K2 K3 K4 K5 K6 h21
                  refine wp_call _ _ _ _ _ rfl t65 (by rfl) (by kernel_rfl) (K1.out W hS) (fun e W9 h9 => ?_)
                  obtain ⟨rfl, hb9⟩ := h9
                  exact ⟨_, rfl, hK W9 hb9⟩
                case s60 =>
                  refine And.intro (by rfl) (fun tm W hS hsz hfr hdep K hK => ?_)
                  change tm.size = 91 at hsz
                  have t69 : tm.getD 69 undef = .func (.func 27) #[] #[.pointer (some ⟨w.heap.size, 0, none⟩)] := hdep 59 (by rfl) (by decide)
                  clear hdep hfr HB0 KB0 HLT HB3 KB3 HL3 HAK HCK K1 K2 K3 K4 K5 K6 h21
                  refine wp_call _ _ _ _ _ rfl t69 (by rfl) (by kernel_rfl) (K0.out W hS) (fun e W9 h9 => ?_)
                  obtain ⟨rfl, hb9⟩ := h9
                  exact ⟨_, rfl, hK W9 hb9⟩
              case fin =>
                intro W hS
                have HS := Lib.hid hS
                clear hS
                simp only [fillD]
                go_simp
                go_wp2_with fail
                refine (K2.out _ HS.out).mono ?_
                rintro e wx1 ⟨rfl, hbx⟩
                have HX1 := Lib.hid (HS.out.trans (hbx.mono HS.out.size))
                clear hbx
                go_wp2_with fail
                refine (HAK.out _ HX1.out).mono ?_
                rintro e wx2 ⟨rfl, hbx⟩
                have HX2 := Lib.hid (HX1.out.trans (hbx.mono HX1.out.size))
                clear hbx
                go_wp2
                go_ret
                exact ⟨rfl, (HU.out _ HX2.out).1⟩
            case true =>
              replace K2 : Hid (∀ W, Below w3.heap.size w3 W → Calls Tryd.prog 27 #[.int .i64 2, .pointer (some ⟨w.heap.size, 0, none⟩)] W fun e w' => e = .returned (.bool false) ∧ Below W.heap.size W w') := K2
              replace K5 : Hid (∀ W, Below w3.heap.size w3 W → Calls Tryd.prog 27 #[.int .i64 5, .pointer (some ⟨w.heap.size, 0, none⟩)] W fun e w' => e = .returned (.bool true) ∧ Below W.heap.size W w') := K5
              replace K6 : Hid (∀ W, Below w3.heap.size w3 W → Calls Tryd.prog 27 #[.int .i64 6, .pointer (some ⟨w.heap.size, 0, none⟩)] W fun e w' => e = .returned (.bool false) ∧ Below W.heap.size W w') := K6
              refine wp_region_mix [.func (.func 27) #[] #[.pointer (some ⟨w.heap.size, 0, none⟩)], .bool true, .agg #[.int .i64 m.n, .slice A1 m.val.length c1, .slice A2 m.rel.length c2], .int .i64 cm, .bool true, .bool true, .bool true, .func (.func 27) #[] #[.pointer (some ⟨w.heap.size, 0, none⟩)], .bool false, .bool true, .bool true, undef, undef, undef, undef, undef, undef, .bool true, .bool true, .bool true, .func (.func 27) #[] #[.pointer (some ⟨w.heap.size, 0, none⟩)], .bool false, .bool true, .bool true, undef, undef, undef, undef, undef, undef, .bool true, .bool true, .bool true, .func (.func 27) #[] #[.pointer (some ⟨w.heap.size, 0, none⟩)], .bool true, .bool false, .bool false, .func (.func 27) #[] #[.pointer (some ⟨w.heap.size, 0, none⟩)], .bool true, .bool true, .func (.func 27) #[] #[.pointer (some ⟨w.heap.size, 0, none⟩)], .bool true, .bool true, .bool true, .bool true, .bool true, .func (.func 27) #[] #[.pointer (some ⟨w.heap.size, 0, none⟩)], .bool false, .bool true, .bool true, undef, undef, .bool true, .bool true, .bool true, .func (.func 27) #[] #[.pointer (some ⟨w.heap.size, 0, none⟩)], .bool true, .bool false, .bool false, .func (.func 27) #[] #[.pointer (some ⟨w.heap.size, 0, none⟩)], .bool true, .bool true, .bool true, .bool true] [10, 11, 12, 13, 14, 15, 16, 17, 18, 19, 20, 21, 22, 23, 24, 25, 26, 27, 28, 29, 30, 31, 32, 33, 34, 35, 36, 37, 38, 39, 40, 41, 42, 43, 44, 45, 46, 47, 48, 49, 50, 51, 52, 53, 54, 55, 56, 57, 58, 59, 60, 61, 62, 63, 64, 65, 66, 67, 68, 69, 70, 71, 72, 4] [1, 2, 3, 4, 5, 8, 21, 34, 38, 41, 47, 56, 60] (fun W => Below w3.heap.size w3 W) (fun W W' => Below W.heap.size W W') 64 91 rfl rfl rfl rfl (by decide) (by decide) (by kernel_rfl) (by kernel_rfl) (by kernel_rfl) (fun W => Below.refl _ W) (fun W1 W2 W3 h1 h2 => h1.trans (h2.mono h1.size)) (fun W W' h h2 => h.trans (h2.mono h.size)) (Below.refl _ w3).drew (by kernel_rfl) [] rfl ?hop ?fin
              case hop =>
                refine (And.intro ?s1 (And.intro ?s2 (And.intro ?s3 (And.intro ?s4 (And.intro ?s5 (And.intro ?s8 (And.intro ?s21 (And.intro ?s34 (And.intro ?s38 (And.intro ?s41 (And.intro ?s47 (And.intro ?s56 (And.intro ?s60 trivial)))))))))))))
                case s1 =>
                  refine And.intro (by rfl) (fun tm W hS hsz hfr hdep K hK => ?_)
                  change tm.size = 91 at hsz
                  have t10 : tm.getD 10 undef = .func (.func 27) #[] #[.pointer (some ⟨w.heap.size, 0, none⟩)] := hdep 0 (by rfl) (by decide)
                  clear hdep hfr HB0 KB0 HLT HB3 KB3 HL3 HAK HCK K1 K2 K3 K4 K5 K6 h21
                  refine wp_call _ _ _ _ _ rfl t10 (by rfl) (by kernel_rfl) (K0.out W hS) (fun e W9 h9 => ?_)
                  obtain ⟨rfl, hb9⟩ := h9
                  exact ⟨_, rfl, hK W9 hb9⟩
                case s2 =>
                  refine And.intro (by rfl) (fun tm W hS hsz hfr hdep K hK => ?_)
                  change tm.size = 91 at hsz
                  have t1 : tm.getD 1 undef = .pointer (some ⟨w.heap.size, 0, none⟩) := hfr 1 (by rfl)
                  have kb := (HU.out W hS).2
                  have y0 := (Lib.cell_of_heap kb 0).trans (show _ = some (.int .i64 m.n) from rfl)
                  have y1 := (Lib.cell_of_heap kb 1).trans (show _ = some (.slice A1 m.val.length c1) from rfl)
                  have y2 := (Lib.cell_of_heap kb 2).trans (show _ = some (.slice A2 m.rel.length c2) from rfl)
                  clear kb
                  clear hdep hfr HB0 KB0 HLT HB3 KB3 HL3 HAK HCK K0 K1 K2 K3 K4 K5 K6 h21
                  go_simp
                  exact hK W (Below.refl _ W)
                case s3 =>
                  refine And.intro (by rfl) (fun tm W hS hsz hfr hdep K hK => ?_)
                  change tm.size = 91 at hsz
                  have t12 : tm.getD 12 undef = .agg #[.int .i64 m.n, .slice A1 m.val.length c1, .slice A2 m.rel.length c2] := hdep 2 (by rfl) (by decide)
                  clear hdep hfr HB0 KB0 HLT HB3 KB3 HL3 HAK K0 K1 K2 K3 K4 K5 K6 h21
                  refine wp_call _ _ _ _ _ rfl rfl (by simp [Act.eval, t12]) (by kernel_rfl) (HCK.out W hS) (fun e W9 h9 => ?_)
                  obtain ⟨rfl, hb9⟩ := h9
                  exact ⟨_, rfl, hK W9 hb9⟩
                case s4 =>
                  refine And.intro (by rfl) (fun tm W hS hsz hfr hdep K hK => ?_)
                  change tm.size = 91 at hsz
                  have t13 : tm.getD 13 undef = .int .i64 cm := hdep 3 (by rfl) (by decide)
                  clear hdep hfr HB0 KB0 HLT HB3 KB3 HL3 HAK HCK K0 K1 K2 K3 K4 K5 K6 h21
                  go_simp
                  exact hK W (Below.refl _ W)
                case s5 =>
                  refine And.intro (by rfl) (fun tm W hS hsz hfr hdep K hK => ?_)
                  change tm.size = 91 at hsz
                  have t11 : tm.getD 11 undef = .bool true := hdep 1 (by rfl) (by decide)
                  have t14 : tm.getD 14 undef = .bool true := hdep 4 (by rfl) (by decide)
                  clear hdep hfr HB0 KB0 HLT HB3 KB3 HL3 HAK HCK K0 K1 K2 K3 K4 K5 K6 h21
                  go_simp
                  exact hK W (Below.refl _ W)
                case s8 =>
                  refine And.intro (by rfl) (fun tm W hS hsz hfr hdep K hK => ?_)
                  change tm.size = 91 at hsz
                  have t17 : tm.getD 17 undef = .func (.func 27) #[] #[.pointer (some ⟨w.heap.size, 0, none⟩)] := hdep 7 (by rfl) (by decide)
                  clear hdep hfr HB0 KB0 HLT HB3 KB3 HL3 HAK HCK K0 K1 K2 K3 K4 K5 h21
                  refine wp_call _ _ _ _ _ rfl t17 (by rfl) (by kernel_rfl) (K6.out W hS) (fun e W9 h9 => ?_)
                  obtain ⟨rfl, hb9⟩ := h9
                  exact ⟨_, rfl, hK W9 hb9⟩
                case s21 =>
                  refine And.intro (by rfl) (fun tm W hS hsz hfr hdep K hK => ?_)
                  change tm.size = 91 at hsz
                  have t30 : tm.getD 30 undef = .func (.func 27) #[] #[.pointer (some ⟨w.heap.size, 0, none⟩)] := hdep 20 (by rfl) (by decide)
                  clear hdep hfr HB0 KB0 HLT HB3 KB3 HL3 HAK HCK K0 K1 K2 K3 K5 K6 h21
                  refine wp_call _ _ _ _ _ rfl t30 (by rfl) (by kernel_rfl) (K4.out W hS) (fun e W9 h9 => ?_)
                  obtain ⟨rfl, hb9⟩ := h9
                  exact ⟨_, rfl, hK W9 hb9⟩
                case s34 =>
                  refine And.intro (by rfl) (fun tm W hS hsz hfr hdep K hK => ?_)
                  change tm.size = 91 at hsz
                  have t43 : tm.getD 43 undef = .func (.func 27) #[] #[.pointer (some ⟨w.heap.size, 0, none⟩)] := hdep 33 (by rfl) (by decide)
                  clear hdep hfr HB0 KB0 HLT HB3 KB3 HL3 HAK HCK K0 K1 K2 K3 K4 K6 h21
                  refine wp_call _ _ _ _ _ rfl t43 (by rfl) (by kernel_rfl) (K5.out W hS) (fun e W9 h9 => ?_)
                  obtain ⟨rfl, hb9⟩ := h9
                  exact ⟨_, rfl, hK W9 hb9⟩
                case s38 =>
                  refine And.intro (by rfl) (fun tm W hS hsz hfr hdep K hK => ?_)
                  change tm.size = 91 at hsz
                  have t47 : tm.getD 47 undef = .func (.func 27) #[] #[.pointer (some ⟨w.heap.size, 0, none⟩)] := hdep 37 (by rfl) (by decide)
                  clear hdep hfr HB0 KB0 HLT HB3 KB3 HL3 HAK HCK K0 K2 K3 K4 K5 K6 h21
                  refine wp_call _ _ _ _ _ rfl t47 (by rfl) (by kernel_rfl) (K1.out W hS) (fun e W9 h9 => ?_)
                  obtain ⟨rfl, hb9⟩ := h9
                  exact ⟨_, rfl, hK W9 hb9⟩
                case s41 =>
                  refine And.intro (by rfl) (fun tm W hS hsz hfr hdep K hK => ?_)
                  change tm.size = 91 at hsz
                  have t50 : tm.getD 50 undef = .func (.func 27) #[] #[.pointer (some ⟨w.heap.size, 0, none⟩)] := hdep 40 (by rfl) (by decide)
                  clear hdep hfr HB0 KB0 HLT HB3 KB3 HL3 HAK HCK K0 K1 K2 K4 K5 K6 h21
                  refine wp_call _ _ _ _ _ rfl t50 (by rfl) (by kernel_rfl) (K3.out W hS) (fun e W9 h9 => ?_)
                  obtain ⟨rfl, hb9⟩ := h9
                  exact ⟨_, rfl, hK W9 hb9⟩
                case s47 =>
                  refine And.intro (by rfl) (fun tm W hS hsz hfr hdep K hK => ?_)
                  change tm.size = 91 at hsz
                  have t56 : tm.getD 56 undef = .func (.func 27) #[] #[.pointer (some ⟨w.heap.size, 0, none⟩)] := hdep 46 (by rfl) (by decide)
                  clear hdep hfr HB0 KB0 HLT HB3 KB3 HL3 HAK HCK K0 K1 K3 K4 K5 K6 h21
                  refine wp_call _ _ _ _ _ rfl t56 (by rfl) (by kernel_rfl) (K2.out W hS) (fun e W9 h9 => ?_)
                  obtain ⟨rfl, hb9⟩ := h9
                  exact ⟨_, rfl, hK W9 hb9⟩
                case s56 =>
                  refine And.intro (by rfl) (fun tm W hS hsz hfr hdep K hK => ?_)
                  change tm.size = 91 at hsz
                  have t65 : tm.getD 65 undef = .func (.func 27) #[] #[.pointer (some ⟨w.heap.size, 0, none⟩)] := hdep 55 (by rfl) (by decide)
                  clear hdep hfr HB0 KB0 HLT HB3 KB3 HL3 HAK HCK K0 K2 K3 K4 K5 K6 h21
                  refine wp_call _ _ _ _ _ rfl t65 (by rfl) (by kernel_rfl) (K1.out W hS) (fun e W9 h9 => ?_)
                  obtain ⟨rfl, hb9⟩ := h9
                  exact ⟨_, rfl, hK W9 hb9⟩
                case s60 =>
                  refine And.intro (by rfl) (fun tm W hS hsz hfr hdep K hK => ?_)
                  change tm.size = 91 at hsz
                  have t69 : tm.getD 69 undef = .func (.func 27) #[] #[.pointer (some ⟨w.heap.size, 0, none⟩)] := hdep 59 (by rfl) (by decide)
                  clear hdep hfr HB0 KB0 HLT HB3 KB3 HL3 HAK HCK K1 K2 K3 K4 K5 K6 h21
                  refine wp_call _ _ _ _ _ rfl t69 (by rfl) (by kernel_rfl) (K0.out W hS) (fun e W9 h9 => ?_)
                  obtain ⟨rfl, hb9⟩ := h9
                  exact ⟨_, rfl, hK W9 hb9⟩
              case fin =>
                intro W hS
                have HS := Lib.hid hS
                clear hS
                simp only [fillD]
                go_simp
                go_wp2_with fail
                refine (K2.out _ HS.out).mono ?_
                rintro e wx1 ⟨rfl, hbx⟩
                have HX1 := Lib.hid (HS.out.trans (hbx.mono HS.out.size))
                clear hbx
                go_wp2_with fail
                refine (HAK.out _ HX1.out).mono ?_
                rintro e wx2 ⟨rfl, hbx⟩
                have HX2 := Lib.hid (HX1.out.trans (hbx.mono HX1.out.size))
                clear hbx
                go_wp2
                go_ret
                exact ⟨rfl, (HU.out _ HX2.out).1⟩
      case true =>
        obtain rfl : a1 = true := h21 rfl
        cases a4
        case false =>
          replace K2 : Hid (∀ W, Below w3.heap.size w3 W → Calls Tryd.prog 27 #[.int .i64 2, .pointer (some ⟨w.heap.size, 0, none⟩)] W fun e w' => e = .returned (.bool true) ∧ Below W.heap.size W w') := K2
          replace K5 : Hid (∀ W, Below w3.heap.size w3 W → Calls Tryd.prog 27 #[.int .i64 5, .pointer (some ⟨w.heap.size, 0, none⟩)] W fun e w' => e = .returned (.bool false) ∧ Below W.heap.size W w') := K5
          replace K6 : Hid (∀ W, Below w3.heap.size w3 W → Calls Tryd.prog 27 #[.int .i64 6, .pointer (some ⟨w.heap.size, 0, none⟩)] W fun e w' => e = .returned (.bool false) ∧ Below W.heap.size W w') := K6
          refine wp_region_mix [.func (.func 27) #[] #[.pointer (some ⟨w.heap.size, 0, none⟩)], .bool true, .agg #[.int .i64 m.n, .slice A1 m.val.length c1, .slice A2 m.rel.length c2], .int .i64 cm, .bool true, .bool true, .bool true, .func (.func 27) #[] #[.pointer (some ⟨w.heap.size, 0, none⟩)], .bool false, .bool true, .bool true, undef, undef, undef, undef, undef, undef, .bool true, .bool true, .bool true, .func (.func 27) #[] #[.pointer (some ⟨w.heap.size, 0, none⟩)], .bool false, .bool true, .bool true, undef, undef, undef, undef, undef, undef, .bool true, .bool true, .bool true, .func (.func 27) #[] #[.pointer (some ⟨w.heap.size, 0, none⟩)], .bool false, .bool true, .bool true, undef, undef, undef, undef, undef, undef, .bool true, .bool true, .bool true, .func (.func 27) #[] #[.pointer (some ⟨w.heap.size, 0, none⟩)], .bool true, .bool false, .bool false, .func (.func 27) #[] #[.pointer (some ⟨w.heap.size, 0, none⟩)], .bool true, .bool true, .bool true, .bool true, .func (.func 27) #[] #[.pointer (some ⟨w.heap.size, 0, none⟩)], .bool true, .bool false, .bool false, .func (.func 27) #[] #[.pointer (some ⟨w.heap.size, 0, none⟩)], .bool true, .bool true, .bool true, .bool true] [10, 11, 12, 13, 14, 15, 16, 17, 18, 19, 20, 21, 22, 23, 24, 25, 26, 27, 28, 29, 30, 31, 32, 33, 34, 35, 36, 37, 38, 39, 40, 41, 42, 43, 44, 45, 46, 47, 48, 49, 50, 51, 52, 53, 54, 55, 56, 57, 58, 59, 60, 61, 62, 63, 64, 65, 66, 67, 68, 69, 70, 71, 72, 4] [1, 2, 3, 4, 5, 8, 21, 34, 47, 51, 56, 60] (fun W => Below w3.heap.size w3 W) (fun W W' => Below W.heap.size W W') 64 91 rfl rfl rfl rfl (by decide) (by decide) (by kernel_rfl) (by kernel_rfl) (by kernel_rfl) (fun W => Below.refl _ W) (fun W1 W2 W3 h1 h2 => h1.trans (h2.mono h1.size)) (fun W W' h h2 => h.trans (h2.mono h.size)) (Below.refl _ w3).drew (by kernel_rfl) [] rfl ?hop ?fin
          case hop =>
            refine (And.intro ?s1 (And.intro ?s2 (And.intro ?s3 (And.intro ?s4 (And.intro ?s5 (And.intro ?s8 (And.intro ?s21 (And.intro ?s34 (And.intro ?s47 (And.intro ?s51 (And.intro ?s56 (And.intro ?s60 trivial))))))))))))
            case s1 =>
              refine And.intro (by rfl) (fun tm W hS hsz hfr hdep K hK => ?_)
              change tm.size = 91 at hsz
              have t10 : tm.getD 10 undef = .func (.func 27) #[] #[.pointer (some ⟨w.heap.size, 0, none⟩)] := hdep 0 (by rfl) (by decide)
              clear hdep hfr HB0 KB0 HLT HB3 KB3 HL3 HAK HCK K1 K2 K3 K4 K5 K6 h21
              refine wp_call _ _ _ _ _ rfl t10 (by rfl) (by kernel_rfl) (K0.out W hS) (fun e W9 h9 => ?_)
              obtain ⟨rfl, hb9⟩ := h9
              exact ⟨_, rfl, hK W9 hb9⟩
            case s2 =>
              refine And.intro (by rfl) (fun tm W hS hsz hfr hdep K hK => ?_)
              change tm.size = 91 at hsz
              have t1 : tm.getD 1 undef = .pointer (some ⟨w.heap.size, 0, none⟩) := hfr 1 (by rfl)
              have kb := (HU.out W hS).2
              have y0 := (Lib.cell_of_heap kb 0).trans (show _ = some (.int .i64 m.n) from rfl)
              have y1 := (Lib.cell_of_heap kb 1).trans (show _ = some (.slice A1 m.val.length c1) from rfl)
              have y2 := (Lib.cell_of_heap kb 2).trans (show _ = some (.slice A2 m.rel.length c2) from rfl)
              clear kb
              clear hdep hfr HB0 KB0 HLT HB3 KB3 HL3 HAK HCK K0 K1 K2 K3 K4 K5 K6 h21
              go_simp
              exact hK W (Below.refl _ W)
            case s3 =>
              refine And.intro (by rfl) (fun tm W hS hsz hfr hdep K hK => ?_)
              change tm.size = 91 at hsz
              have t12 : tm.getD 12 undef = .agg #[.int .i64 m.n, .slice A1 m.val.length c1, .slice A2 m.rel.length c2] := hdep 2 (by rfl) (by decide)
              clear hdep hfr HB0 KB0 HLT HB3 KB3 HL3 HAK K0 K1 K2 K3 K4 K5 K6 h21
              refine wp_call _ _ _ _ _ rfl rfl (by simp [Act.eval, t12]) (by kernel_rfl) (HCK.out W hS) (fun e W9 h9 => ?_)
              obtain ⟨rfl, hb9⟩ := h9
              exact ⟨_, rfl, hK W9 hb9⟩
            case s4 =>
              refine And.intro (by rfl) (fun tm W hS hsz hfr hdep K hK => ?_)
              change tm.size = 91 at hsz
              have t13 : tm.getD 13 undef = .int .i64 cm := hdep 3 (by rfl) (by decide)
              clear hdep hfr HB0 KB0 HLT HB3 KB3 HL3 HAK HCK K0 K1 K2 K3 K4 K5 K6 h21
              go_simp
              exact hK W (Below.refl _ W)
            case s5 =>
              refine And.intro (by rfl) (fun tm W hS hsz hfr hdep K hK => ?_)
              change tm.size = 91 at hsz
              have t11 : tm.getD 11 undef = .bool true := hdep 1 (by rfl) (by decide)
              have t14 : tm.getD 14 undef = .bool true := hdep 4 (by rfl) (by decide)
              clear hdep hfr HB0 KB0 HLT HB3 KB3 HL3 HAK HCK K0 K1 K2 K3 K4 K5 K6 h21
              go_simp
              exact hK W (Below.refl _ W)
            case s8 =>
              refine And.intro (by rfl) (fun tm W hS hsz hfr hdep K hK => ?_)
              change tm.size = 91 at hsz
              have t17 : tm.getD 17 undef = .func (.func 27) #[] #[.pointer (some ⟨w.heap.size, 0, none⟩)] := hdep 7 (by rfl) (by decide)
              clear hdep hfr HB0 KB0 HLT HB3 KB3 HL3 HAK HCK K0 K1 K2 K3 K4 K5 h21
              refine wp_call _ _ _ _ _ rfl t17 (by rfl) (by kernel_rfl) (K6.out W hS) (fun e W9 h9 => ?_)
              obtain ⟨rfl, hb9⟩ := h9
              exact ⟨_, rfl, hK W9 hb9⟩
            case s21 =>
              refine And.intro (by rfl) (fun tm W hS hsz hfr hdep K hK => ?_)
              change tm.size = 91 at hsz
              have t30 : tm.getD 30 undef = .func (.func 27) #[] #[.pointer (some ⟨w.heap.size, 0, none⟩)] := hdep 20 (by rfl) (by decide)
              clear hdep hfr HB0 KB0 HLT HB3 KB3 HL3 HAK HCK K0 K1 K2 K3 K5 K6 h21
              refine wp_call _ _ _ _ _ rfl t30 (by rfl) (by kernel_rfl) (K4.out W hS) (fun e W9 h9 => ?_)
              obtain ⟨rfl, hb9⟩ := h9
              exact ⟨_, rfl, hK W9 hb9⟩
            case s34 =>
              refine And.intro (by rfl) (fun tm W hS hsz hfr hdep K hK => ?_)
              change tm.size = 91 at hsz
              have t43 : tm.getD 43 undef = .func (.func 27) #[] #[.pointer (some ⟨w.heap.size, 0, none⟩)] := hdep 33 (by rfl) (by decide)
              clear hdep hfr HB0 KB0 HLT HB3 KB3 HL3 HAK HCK K0 K1 K2 K3 K4 K6 h21
              refine wp_call _ _ _ _ _ rfl t43 (by rfl) (by kernel_rfl) (K5.out W hS) (fun e W9 h9 => ?_)
              obtain ⟨rfl, hb9⟩ := h9
              exact ⟨_, rfl, hK W9 hb9⟩
            case s47 =>
              refine And.intro (by rfl) (fun tm W hS hsz hfr hdep K hK => ?_)
              change tm.size = 91 at hsz
              have t56 : tm.getD 56 undef = .func (.func 27) #[] #[.pointer (some ⟨w.heap.size, 0, none⟩)] := hdep 46 (by rfl) (by decide)
              clear hdep hfr HB0 KB0 HLT HB3 KB3 HL3 HAK HCK K0 K1 K3 K4 K5 K6 h21
              refine wp_call _ _ _ _ _ rfl t56 (by rfl) (by kernel_rfl) (K2.out W hS) (fun e W9 h9 => ?_)
              obtain ⟨rfl, hb9⟩ := h9
              exact ⟨_, rfl, hK W9 hb9⟩
            case s51 =>
              refine And.intro (by rfl) (fun tm W hS hsz hfr hdep K hK => ?_)
              change tm.size = 91 at hsz
              have t60 : tm.getD 60 undef = .func (.func 27) #[] #[.pointer (some ⟨w.heap.size, 0, none⟩)] := hdep 50 (by rfl) (by decide)
              clear hdep hfr HB0 KB0 HLT HB3 KB3 HL3 HAK HCK K0 K2 K3 K4 K5 K6 h21
              refine wp_call _ _ _ _ _ rfl t60 (by rfl) (by kernel_rfl) (K1.out W hS) (fun e W9 h9 => ?_)
              obtain ⟨rfl, hb9⟩ := h9
              exact ⟨_, rfl, hK W9 hb9⟩
            case s56 =>
              refine And.intro (by rfl) (fun tm W hS hsz hfr hdep K hK => ?_)
              change tm.size = 91 at hsz
              have t65 : tm.getD 65 undef = .func (.func 27) #[] #[.pointer (some ⟨w.heap.size, 0, none⟩)] := hdep 55 (by rfl) (by decide)
              clear hdep hfr HB0 KB0 HLT HB3 KB3 HL3 HAK HCK K0 K2 K3 K4 K5 K6 h21
              refine wp_call _ _ _ _ _ rfl t65 (by rfl) (by kernel_rfl) (K1.out W hS) (fun e W9 h9 => ?_)
              obtain ⟨rfl, hb9⟩ := h9
              exact ⟨_, rfl, hK W9 hb9⟩
            case s60 =>
              refine And.intro (by rfl) (fun tm W hS hsz hfr hdep K hK => ?_)
              change tm.size = 91 at hsz
              have t69 : tm.getD 69 undef = .func (.func 27) #[] #[.pointer (some ⟨w.heap.size, 0, none⟩)] := hdep 59 (by rfl) (by decide)
              clear hdep hfr HB0 KB0 HLT HB3 KB3 HL3 HAK HCK K1 K2 K3 K4 K5 K6 h21
              refine wp_call _ _ _ _ _ rfl t69 (by rfl) (by kernel_rfl) (K0.out W hS) (fun e W9 h9 => ?_)
              obtain ⟨rfl, hb9⟩ := h9
              exact ⟨_, rfl, hK W9 hb9⟩
          case fin =>
            intro W hS
            have HS := Lib.hid hS
            clear hS
            simp only [fillD]
            go_simp
            go_wp2_with fail
            refine (K2.out _ HS.out).mono ?_
            rintro e wx1 ⟨rfl, hbx⟩
            have HX1 := Lib.hid (HS.out.trans (hbx.mono HS.out.size))
            clear hbx
            go_wp2_with fail
            refine (K5.out _ HX1.out).mono ?_
            rintro e wx2 ⟨rfl, hbx⟩
            have HX2 := Lib.hid (HX1.out.trans (hbx.mono HX1.out.size))
            clear hbx
            go_wp2_with fail
            refine (HAK.out _ HX2.out).mono ?_
            rintro e wx3 ⟨rfl, hbx⟩
            have HX3 := Lib.hid (HX2.out.trans (hbx.mono HX2.out.size))
            clear hbx
            go_wp2
            go_ret
            exact ⟨rfl, (HU.out _ HX3.out).1⟩
        case true =>
          cases a5
          case false =>
            replace K2 : Hid (∀ W, Below w3.heap.size w3 W → Calls Tryd.prog 27 #[.int .i64 2, .pointer (some ⟨w.heap.size, 0, none⟩)] W fun e w' => e = .returned (.bool true) ∧ Below W.heap.size W w') := K2
            replace K5 : Hid (∀ W, Below w3.heap.size w3 W → Calls Tryd.prog 27 #[.int .i64 5, .pointer (some ⟨w.heap.size, 0, none⟩)] W fun e w' => e = .returned (.bool false) ∧ Below W.heap.size W w') := K5
            replace K6 : Hid (∀ W, Below w3.heap.size w3 W → Calls Tryd.prog 27 #[.int .i64 6, .pointer (some ⟨w.heap.size, 0, none⟩)] W fun e w' => e = .returned (.bool false) ∧ Below W.heap.size W w') := K6
            refine wp_region_mix [.func (.func 27) #[] #[.pointer (some ⟨w.heap.size, 0, none⟩)], .bool true, .agg #[.int .i64 m.n, .slice A1 m.val.length c1, .slice A2 m.rel.length c2], .int .i64 cm, .bool true, .bool true, .bool true, .func (.func 27) #[] #[.pointer (some ⟨w.heap.size, 0, none⟩)], .bool false, .bool true, .bool true, undef, undef, undef, undef, undef, undef, .bool true, .bool true, .bool true, .func (.func 27) #[] #[.pointer (some ⟨w.heap.size, 0, none⟩)], .bool true, .bool false, .bool false, .func (.func 27) #[] #[.pointer (some ⟨w.heap.size, 0, none⟩)], .bool true, .bool true, .func (.func 27) #[] #[.pointer (some ⟨w.heap.size, 0, none⟩)], .bool true, .bool true, .bool true, .bool true, .bool true, .func (.func 27) #[] #[.pointer (some ⟨w.heap.size, 0, none⟩)], .bool false, .bool true, .bool true, undef, undef, undef, undef, undef, undef, .bool true, .bool true, .bool true, .func (.func 27) #[] #[.pointer (some ⟨w.heap.size, 0, none⟩)], .bool true, .bool false, .bool false, .func (.func 27) #[] #[.pointer (some ⟨w.heap.size, 0, none⟩)], .bool true, .bool true, .bool true, .bool true, .func (.func 27) #[] #[.pointer (some ⟨w.heap.size, 0, none⟩)], .bool true, .bool false, .bool false, .func (.func 27) #[] #[.pointer (some ⟨w.heap.size, 0, none⟩)], .bool true, .bool true, .bool true, .bool true] [10, 11, 12, 13, 14, 15, 16, 17, 18, 19, 20, 21, 22, 23, 24, 25, 26, 27, 28, 29, 30, 31, 32, 33, 34, 35, 36, 37, 38, 39, 40, 41, 42, 43, 44, 45, 46, 47, 48, 49, 50, 51, 52, 53, 54, 55, 56, 57, 58, 59, 60, 61, 62, 63, 64, 65, 66, 67, 68, 69, 70, 71, 72, 4] [1, 2, 3, 4, 5, 8, 21, 25, 28, 34, 47, 51, 56, 60] (fun W => Below w3.heap.size w3 W) (fun W W' => Below W.heap.size W W') 64 91 rfl rfl rfl rfl (by decide) (by decide) (by kernel_rfl) (by kernel_rfl) (by kernel_rfl) (fun W => Below.refl _ W) (fun W1 W2 W3 h1 h2 => h1.trans (h2.mono h1.size)) (fun W W' h h2 => h.trans (h2.mono h.size)) (Below.refl _ w3).drew (by kernel_rfl) [] rfl ?hop ?fin
            case hop =>
              refine (And.intro ?s1 (And.intro ?s2 (And.intro ?s3 (And.intro ?s4 (And.intro ?s5 (And.intro ?s8 (And.intro ?s21 (And.intro ?s25 (And.intro ?s28 (And.intro ?s34 (And.intro ?s47 (And.intro ?s51 (And.intro ?s56 (And.intro ?s60 trivial))))))))))))))
              case s1 =>
                refine And.intro (by rfl) (fun tm W hS hsz hfr hdep K hK => ?_)
                change tm.size = 91 at hsz
                have t10 : tm.getD 10 undef = .func (.func 27) #[] #[.pointer (some ⟨w.heap.size, 0, none⟩)] := hdep 0 (by rfl) (by decide)
                clear hdep hfr HB0 KB0 HLT HB3 KB3 HL3 HAK HCK K1 K2 K3 K4 K5 K6 h21
                refine wp_call _ _ _ _ _ rfl t10 (by rfl) (by kernel_rfl) (K0.out W hS) (fun e W9 h9 => ?_)
                obtain ⟨rfl, hb9⟩ := h9
                exact ⟨_, rfl, hK W9 hb9⟩
              case s2 =>
                refine And.intro (by rfl) (fun tm W hS hsz hfr hdep K hK => ?_)
                change tm.size = 91 at hsz
                have t1 : tm.getD 1 undef = .pointer (some ⟨w.heap.size, 0, none⟩) := hfr 1 (by rfl)
                have kb := (HU.out W hS).2
                have y0 := (Lib.cell_of_heap kb 0).trans (show _ = some (.int .i64 m.n) from rfl)
                have y1 := (Lib.cell_of_heap kb 1).trans (show _ = some (.slice A1 m.val.length c1) from rfl)
                have y2 := (Lib.cell_of_heap kb 2).trans (show _ = some (.slice A2 m.rel.length c2) from rfl)
                clear kb
                clear hdep hfr HB0 KB0 HLT HB3 KB3 HL3 HAK HCK K0 K1 K2 K3 K4 K5 K6 h21
                go_simp
                exact hK W (Below.refl _ W)
              case s3 =>
                refine And.intro (by rfl) (fun tm W hS hsz hfr hdep K hK => ?_)
                change tm.size = 91 at hsz
                have t12 : tm.getD 12 undef = .agg #[.int .i64 m.n, .slice A1 m.val.length c1, .slice A2 m.rel.length c2] := hdep 2 (by rfl) (by decide)
                clear hdep hfr HB0 KB0 HLT HB3 KB3 HL3 HAK K0 K1 K2 K3 K4 K5 K6 h21
                refine wp_call _ _ _ _ _ rfl rfl (by simp [Act.eval, t12]) (by kernel_rfl) (HCK.out W hS) (fun e W9 h9 => ?_)
                obtain ⟨rfl, hb9⟩ := h9
                exact ⟨_, rfl, hK W9 hb9⟩
              case s4 =>
                refine And.intro (by rfl) (fun tm W hS hsz hfr hdep K hK => ?_)
                change tm.size = 91 at hsz
                have t13 : tm.getD 13 undef = .int .i64 cm := hdep 3 (by rfl) (by decide)
                clear hdep hfr HB0 KB0 HLT HB3 KB3 HL3 HAK HCK K0 K1 K2 K3 K4 K5 K6 h21
                go_simp
                exact hK W (Below.refl _ W)
              case s5 =>
                refine And.intro (by rfl) (fun tm W hS hsz hfr hdep K hK => ?_)
                change tm.size = 91 at hsz
                have t11 : tm.getD 11 undef = .bool true := hdep 1 (by rfl) (by decide)
                have t14 : tm.getD 14 undef = .bool true := hdep 4 (by rfl) (by decide)
                clear hdep hfr HB0 KB0 HLT HB3 KB3 HL3 HAK HCK K0 K1 K2 K3 K4 K5 K6 h21
                go_simp
                exact hK W (Below.refl _ W)
              case s8 =>
                refine And.intro (by rfl) (fun tm W hS hsz hfr hdep K hK => ?_)
                change tm.size = 91 at hsz
                have t17 : tm.getD 17 undef = .func (.func 27) #[] #[.pointer (some ⟨w.heap.size, 0, none⟩)] := hdep 7 (by rfl) (by decide)
                clear hdep hfr HB0 KB0 HLT HB3 KB3 HL3 HAK HCK K0 K1 K2 K3 K4 K5 h21
                refine wp_call _ _ _ _ _ rfl t17 (by rfl) (by kernel_rfl) (K6.out W hS) (fun e W9 h9 => ?_)
                obtain ⟨rfl, hb9⟩ := h9
                exact ⟨_, rfl, hK W9 hb9⟩
              case s21 =>
                refine And.intro (by rfl) (fun tm W hS hsz hfr hdep K hK => ?_)
                change tm.size = 91 at hsz
                have t30 : tm.getD 30 undef = .func (.func 27) #[] #[.pointer (some ⟨w.heap.size, 0, none⟩)] := hdep 20 (by rfl) (by decide)
                clear hdep hfr HB0 KB0 HLT HB3 KB3 HL3 HAK HCK K0 K1 K2 K3 K5 K6 h21
                refine wp_call _ _ _ _ _ rfl t30 (by rfl) (by kernel_rfl) (K4.out W hS) (fun e W9 h9 => ?_)
                obtain ⟨rfl, hb9⟩ := h9
                exact ⟨_, rfl, hK W9 hb9⟩
              case s25 =>
                refine And.intro (by rfl) (fun tm W hS hsz hfr hdep K hK => ?_)
                change tm.size = 91 at hsz
                have t34 : tm.getD 34 undef = .func (.func 27) #[] #[.pointer (some ⟨w.heap.size, 0, none⟩)] := hdep 24 (by rfl) (by decide)
                clear hdep hfr HB0 KB0 HLT HB3 KB3 HL3 HAK HCK K0 K1 K3 K4 K5 K6 h21
                refine wp_call _ _ _ _ _ rfl t34 (by rfl) (by kernel_rfl) (K2.out W hS) (fun e W9 h9 => ?_)
                obtain ⟨rfl, hb9⟩ := h9
                exact ⟨_, rfl, hK W9 hb9⟩
              case s28 =>
                refine And.intro (by rfl) (fun tm W hS hsz hfr hdep K hK => ?_)
                change tm.size = 91 at hsz
                have t37 : tm.getD 37 undef = .func (.func 27) #[] #[.pointer (some ⟨w.heap.size, 0, none⟩)] := hdep 27 (by rfl) (by decide)
                clear hdep hfr HB0 KB0 HLT HB3 KB3 HL3 HAK HCK K0 K1 K2 K4 K5 K6 h21
                refine wp_call _ _ _ _ _ rfl t37 (by rfl) (by kernel_rfl) (K3.out W hS) (fun e W9 h9 => ?_)
                obtain ⟨rfl, hb9⟩ := h9
                exact ⟨_, rfl, hK W9 hb9⟩
              case s34 =>
                refine And.intro (by rfl) (fun tm W hS hsz hfr hdep K hK => ?_)
                change tm.size = 91 at hsz
                have t43 : tm.getD 43 undef = .func (.func 27) #[] #[.pointer (some ⟨w.heap.size, 0, none⟩)] := hdep 33 (by rfl) (by decide)
                clear hdep hfr HB0 KB0 HLT HB3 KB3 HL3 HAK HCK K0 K1 K2 K3 K4 K6 h21
                refine wp_call _ _ _ _ _ rfl t43 (by rfl) (by kernel_rfl) (K5.out W hS) (fun e W9 h9 => ?_)
                obtain ⟨rfl, hb9⟩ := h9
                exact ⟨_, rfl, hK W9 hb9⟩
              case s47 =>
                refine And.intro (by rfl) (fun tm W hS hsz hfr hdep K hK => ?_)
                change tm.size = 91 at hsz
                have t56 : tm.getD 56 undef = .func (.func 27) #[] #[.pointer (some ⟨w.heap.size, 0, none⟩)] := hdep 46 (by rfl) (by decide)
                clear hdep hfr HB0 KB0 HLT HB3 KB3 HL3 HAK HCK K0 K1 K3 K4 K5 K6 h21
                refine wp_call _ _ _ _ _ rfl t56 (by rfl) (by kernel_rfl) (K2.out W hS) (fun e W9 h9 => ?_)
                obtain ⟨rfl, hb9⟩ := h9
                exact ⟨_, rfl, hK W9 hb9⟩
              case s51 =>
                refine And.intro (by rfl) (fun tm W hS hsz hfr hdep K hK => ?_)
                change tm.size = 91 at hsz
                have t60 : tm.getD 60 undef = .func (.func 27) #[] #[.pointer (some ⟨w.heap.size, 0, none⟩)] := hdep 50 (by rfl) (by decide)
                clear hdep hfr HB0 KB0 HLT HB3 KB3 HL3 HAK HCK K0 K2 K3 K4 K5 K6 h21
                refine wp_call _ _ _ _ _ rfl t60 (by rfl) (by kernel_rfl) (K1.out W hS) (fun e W9 h9 => ?_)
                obtain ⟨rfl, hb9⟩ := h9
                exact ⟨_, rfl, hK W9 hb9⟩
              case s56 =>
                refine And.intro (by rfl) (fun tm W hS hsz hfr hdep K hK => ?_)
                change tm.size = 91 at hsz
                have t65 : tm.getD 65 undef = .func (.func 27) #[] #[.pointer (some ⟨w.heap.size, 0, none⟩)] := hdep 55 (by rfl) (by decide)
                clear hdep hfr HB0 KB0 HLT HB3 KB3 HL3 HAK HCK K0 K2 K3 K4 K5 K6 h21
                refine wp_call _ _ _ _ _ rfl t65 (by rfl) (by kernel_rfl) (K1.out W hS) (fun e W9 h9 => ?_)
                obtain ⟨rfl, hb9⟩ := h9
                exact ⟨_, rfl, hK W9 hb9⟩
              case s60 =>
                refine And.intro (by rfl) (fun tm W hS hsz hfr hdep K hK => ?_)
                change tm.size = 91 at hsz
                have t69 : tm.getD 69 undef = .func (.func 27) #[] #[.pointer (some ⟨w.heap.size, 0, none⟩)] := hdep 59 (by rfl) (by decide)
                clear hdep hfr HB0 KB0 HLT HB3 KB3 HL3 HAK HCK K1 K2 K3 K4 K5 K6 h21
                refine wp_call _ _ _ _ _ rfl t69 (by rfl) (by kernel_rfl) (K0.out W hS) (fun e W9 h9 => ?_)
                obtain ⟨rfl, hb9⟩ := h9
                exact ⟨_, rfl, hK W9 hb9⟩
            case fin =>
              intro W hS
              have HS := Lib.hid hS
              clear hS
              simp only [fillD]
              go_simp
              go_wp2_with fail
              refine (K2.out _ HS.out).mono ?_
              rintro e wx1 ⟨rfl, hbx⟩
              have HX1 := Lib.hid (HS.out.trans (hbx.mono HS.out.size))
              clear hbx
              go_wp2_with fail
              refine (K5.out _ HX1.out).mono ?_
              rintro e wx2 ⟨rfl, hbx⟩
              have HX2 := Lib.hid (HX1.out.trans (hbx.mono HX1.out.size))
              clear hbx
              go_wp2_with fail
              refine (HAK.out _ HX2.out).mono ?_
              rintro e wx3 ⟨rfl, hbx⟩
              have HX3 := Lib.hid (HX2.out.trans (hbx.mono HX2.out.size))
              clear hbx
              go_wp2
              go_ret
              exact ⟨rfl, (HU.out _ HX3.out).1⟩
          case true =>
            replace K2 : Hid (∀ W, Below w3.heap.size w3 W → Calls Tryd.prog 27 #[.int .i64 2, .pointer (some ⟨w.heap.size, 0, none⟩)] W fun e w' => e = .returned (.bool true) ∧ Below W.heap.size W w') := K2
            replace K5 : Hid (∀ W, Below w3.heap.size w3 W → Calls Tryd.prog 27 #[.int .i64 5, .pointer (some ⟨w.heap.size, 0, none⟩)] W fun e w' => e = .returned (.bool true) ∧ Below W.heap.size W w') := K5
            replace K6 : Hid (∀ W, Below w3.heap.size w3 W → Calls Tryd.prog 27 #[.int .i64 6, .pointer (some ⟨w.heap.size, 0, none⟩)] W fun e w' => e = .returned (.bool true) ∧ Below W.heap.size W w') := K6
            refine wp_region_mix [.func (.func 27) #[] #[.pointer (some ⟨w.heap.size, 0, none⟩)], .bool true, .agg #[.int .i64 m.n, .slice A1 m.val.length c1, .slice A2 m.rel.length c2], .int .i64 cm, .bool true, .bool true, .bool true, .func (.func 27) #[] #[.pointer (some ⟨w.heap.size, 0, none⟩)], .bool true, .bool false, .bool false, .func (.func 27) #[] #[.pointer (some ⟨w.heap.size, 0, none⟩)], .bool true, .bool true, .func (.func 27) #[] #[.pointer (some ⟨w.heap.size, 0, none⟩)], .bool true, .bool true, .bool true, .bool true, .bool true, .func (.func 27) #[] #[.pointer (some ⟨w.heap.size, 0, none⟩)], .bool true, .bool false, .bool false, .func (.func 27) #[] #[.pointer (some ⟨w.heap.size, 0, none⟩)], .bool true, .bool true, .func (.func 27) #[] #[.pointer (some ⟨w.heap.size, 0, none⟩)], .bool true, .bool true, .bool true, .bool true, .bool true, .func (.func 27) #[] #[.pointer (some ⟨w.heap.size, 0, none⟩)], .bool true, .bool false, .bool false, .func (.func 27) #[] #[.pointer (some ⟨w.heap.size, 0, none⟩)], .bool true, .bool true, .func (.func 27) #[] #[.pointer (some ⟨w.heap.size, 0, none⟩)], .bool true, .bool true, .bool true, .bool true, .bool true, .func (.func 27) #[] #[.pointer (some ⟨w.heap.size, 0, none⟩)], .bool true, .bool false, .bool false, .func (.func 27) #[] #[.pointer (some ⟨w.heap.size, 0, none⟩)], .bool true, .bool true, .bool true, .bool true, .func (.func 27) #[] #[.pointer (some ⟨w.heap.size, 0, none⟩)], .bool true, .bool false, .bool false, .func (.func 27) #[] #[.pointer (some ⟨w.heap.size, 0, none⟩)], .bool true, .bool true, .bool true, .bool true] [10, 11, 12, 13, 14, 15, 16, 17, 18, 19, 20, 21, 22, 23, 24, 25, 26, 27, 28, 29, 30, 31, 32, 33, 34, 35, 36, 37, 38, 39, 40, 41, 42, 43, 44, 45, 46, 47, 48, 49, 50, 51, 52, 53, 54, 55, 56, 57, 58, 59, 60, 61, 62, 63, 64, 65, 66, 67, 68, 69, 70, 71, 72, 4] [1, 2, 3, 4, 5, 8, 12, 15, 21, 25, 28, 34, 38, 41, 47, 51, 56, 60] (fun W => Below w3.heap.size w3 W) (fun W W' => Below W.heap.size W W') 64 91 rfl rfl rfl rfl (by decide) (by decide) (by kernel_rfl) (by kernel_rfl) (by kernel_rfl) (fun W => Below.refl _ W) (fun W1 W2 W3 h1 h2 => h1.trans (h2.mono h1.size)) (fun W W' h h2 => h.trans (h2.mono h.size)) (Below.refl _ w3).drew (by kernel_rfl) [] rfl ?hop ?fin
            case hop =>
              refine (And.intro ?s1 (And.intro ?s2 (And.intro ?s3 (And.intro ?s4 (And.intro ?s5 (And.intro ?s8 (And.intro ?s12 (And.intro ?s15 (And.intro ?s21 (And.intro ?s25 (And.intro ?s28 (And.intro ?s34 (And.intro ?s38 (And.intro ?s41 (And.intro ?s47 (And.intro ?s51 (And.intro ?s56 (And.intro ?s60 trivial))))))))))))))))))
              case s1 =>
                refine And.intro (by rfl) (fun tm W hS hsz hfr hdep K hK => ?_)
                change tm.size = 91 at hsz
                have t10 : tm.getD 10 undef = .func (.func 27) #[] #[.pointer (some ⟨w.heap.size, 0, none⟩)] := hdep 0 (by rfl) (by decide)
                clear hdep hfr HB0 KB0 HLT HB3 KB3 HL3 HAK HCK K1 K2 K3 K4 K5 K6 h21
                refine wp_call _ _ _ _ _ rfl t10 (by rfl) (by kernel_rfl) (K0.out W hS) (fun e W9 h9 => ?_)
                obtain ⟨rfl, hb9⟩ := h9
                exact ⟨_, rfl, hK W9 hb9⟩
              case s2 =>
                refine And.intro (by rfl) (fun tm W hS hsz hfr hdep K hK => ?_)
                change tm.size = 91 at hsz
                have t1 : tm.getD 1 undef = .pointer (some ⟨w.heap.size, 0, none⟩) := hfr 1 (by rfl)
                have kb := (HU.out W hS).2
                have y0 := (Lib.cell_of_heap kb 0).trans (show _ = some (.int .i64 m.n) from rfl)
                have y1 := (Lib.cell_of_heap kb 1).trans (show _ = some (.slice A1 m.val.length c1) from rfl)
                have y2 := (Lib.cell_of_heap kb 2).trans (show _ = some (.slice A2 m.rel.length c2) from rfl)
                clear kb
                clear hdep hfr HB0 KB0 HLT HB3 KB3 HL3 HAK HCK K0 K1 K2 K3 K4 K5 K6 h21
                go_simp
                exact hK W (Below.refl _ W)
              case s3 =>
                refine And.intro (by rfl) (fun tm W hS hsz hfr hdep K hK => ?_)
                change tm.size = 91 at hsz
                have t12 : tm.getD 12 undef = .agg #[.int .i64 m.n, .slice A1 m.val.length c1, .slice A2 m.rel.length c2] := hdep 2 (by rfl) (by decide)
                clear hdep hfr HB0 KB0 HLT HB3 KB3 HL3 HAK K0 K1 K2 K3 K4 K5 K6 h21
                refine wp_call _ _ _ _ _ rfl rfl (by simp [Act.eval, t12]) (by kernel_rfl) (HCK.out W hS) (fun e W9 h9 => ?_)
                obtain ⟨rfl, hb9⟩ := h9
                exact ⟨_, rfl, hK W9 hb9⟩
              case s4 =>
                refine And.intro (by rfl) (fun tm W hS hsz hfr hdep K hK => ?_)
                change tm.size = 91 at hsz
                have t13 : tm.getD 13 undef = .int .i64 cm := hdep 3 (by rfl) (by decide)
                clear hdep hfr HB0 KB0 HLT HB3 KB3 HL3 HAK HCK K0 K1 K2 K3 K4 K5 K6 h21
                go_simp
                exact hK W (Below.refl _ W)
              case s5 =>
                refine And.intro (by rfl) (fun tm W hS hsz hfr hdep K hK => ?_)
                change tm.size = 91 at hsz
                have t11 : tm.getD 11 undef = .bool true := hdep 1 (by rfl) (by decide)
                have t14 : tm.getD 14 undef = .bool true := hdep 4 (by rfl) (by decide)
                clear hdep hfr HB0 KB0 HLT HB3 KB3 HL3 HAK HCK K0 K1 K2 K3 K4 K5 K6 h21
                go_simp
                exact hK W (Below.refl _ W)
              case s8 =>
                refine And.intro (by rfl) (fun tm W hS hsz hfr hdep K hK => ?_)
                change tm.size = 91 at hsz
                have t17 : tm.getD 17 undef = .func (.func 27) #[] #[.pointer (some ⟨w.heap.size, 0, none⟩)] := hdep 7 (by rfl) (by decide)
                clear hdep hfr HB0 KB0 HLT HB3 KB3 HL3 HAK HCK K0 K1 K2 K3 K4 K5 h21
                refine wp_call _ _ _ _ _ rfl t17 (by rfl) (by kernel_rfl) (K6.out W hS) (fun e W9 h9 => ?_)
                obtain ⟨rfl, hb9⟩ := h9
                exact ⟨_, rfl, hK W9 hb9⟩
              case s12 =>
                refine And.intro (by rfl) (fun tm W hS hsz hfr hdep K hK => ?_)
                change tm.size = 91 at hsz
                have t21 : tm.getD 21 undef = .func (.func 27) #[] #[.pointer (some ⟨w.heap.size, 0, none⟩)] := hdep 11 (by rfl) (by decide)
                clear hdep hfr HB0 KB0 HLT HB3 KB3 HL3 HAK HCK K0 K1 K2 K3 K5 K6 h21
                refine wp_call _ _ _ _ _ rfl t21 (by rfl) (by kernel_rfl) (K4.out W hS) (fun e W9 h9 => ?_)
                obtain ⟨rfl, hb9⟩ := h9
                exact ⟨_, rfl, hK W9 hb9⟩
              case s15 =>
                refine And.intro (by rfl) (fun tm W hS hsz hfr hdep K hK => ?_)
                change tm.size = 91 at hsz
                have t24 : tm.getD 24 undef = .func (.func 27) #[] #[.pointer (some ⟨w.heap.size, 0, none⟩)] := hdep 14 (by rfl) (by decide)
                clear hdep hfr HB0 KB0 HLT HB3 KB3 HL3 HAK HCK K0 K1 K2 K3 K4 K6 h21
                refine wp_call _ _ _ _ _ rfl t24 (by rfl) (by kernel_rfl) (K5.out W hS) (fun e W9 h9 => ?_)
                obtain ⟨rfl, hb9⟩ := h9
                exact ⟨_, rfl, hK W9 hb9⟩
              case s21 =>
                refine And.intro (by rfl) (fun tm W hS hsz hfr hdep K hK => ?_)
                change tm.size = 91 at hsz
                have t30 : tm.getD 30 undef = .func (.func 27) #[] #[.pointer (some ⟨w.heap.size, 0, none⟩)] := hdep 20 (by rfl) (by decide)
                clear hdep hfr HB0 KB0 HLT HB3 KB3 HL3 HAK HCK K0 K1 K2 K3 K5 K6 h21
                refine wp_call _ _ _ _ _ rfl t30 (by rfl) (by kernel_rfl) (K4.out W hS) (fun e W9 h9 => ?_)
                obtain ⟨rfl, hb9⟩ := h9
                exact ⟨_, rfl, hK W9 hb9⟩
              case s25 =>
                refine And.intro (by rfl) (fun tm W hS hsz hfr hdep K hK => ?_)
                change tm.size = 91 at hsz
                have t34 : tm.getD 34 undef = .func (.func 27) #[] #[.pointer (some ⟨w.heap.size, 0, none⟩)] := hdep 24 (by rfl) (by decide)
                clear hdep hfr HB0 KB0 HLT HB3 KB3 HL3 HAK HCK K0 K1 K3 K4 K5 K6 h21
                refine wp_call _ _ _ _ _ rfl t34 (by rfl) (by kernel_rfl) (K2.out W hS) (fun e W9 h9 => ?_)
                obtain ⟨rfl, hb9⟩ := h9
                exact ⟨_, rfl, hK W9 hb9⟩
              case s28 =>
                refine And.intro (by rfl) (fun tm W hS hsz hfr hdep K hK => ?_)
                change tm.size = 91 at hsz
                have t37 : tm.getD 37 undef = .func (.func 27) #[] #[.pointer (some ⟨w.heap.size, 0, none⟩)] := hdep 27 (by rfl) (by decide)
                clear hdep hfr HB0 KB0 HLT HB3 KB3 HL3 HAK HCK K0 K1 K2 K4 K5 K6 h21
                refine wp_call _ _ _ _ _ rfl t37 (by rfl) (by kernel_rfl) (K3.out W hS) (fun e W9 h9 => ?_)
                obtain ⟨rfl, hb9⟩ := h9
                exact ⟨_, rfl, hK W9 hb9⟩
              case s34 =>
                refine And.intro (by rfl) (fun tm W hS hsz hfr hdep K hK => ?_)
                change tm.size = 91 at hsz
                have t43 : tm.getD 43 undef = .func (.func 27) #[] #[.pointer (some ⟨w.heap.size, 0, none⟩)] := hdep 33 (by rfl) (by decide)
                clear hdep hfr HB0 KB0 HLT HB3 KB3 HL3 HAK HCK K0 K1 K2 K3 K4 K6 h21
                refine wp_call _ _ _ _ _ rfl t43 (by rfl) (by kernel_rfl) (K5.out W hS) (fun e W9 h9 => ?_)
                obtain ⟨rfl, hb9⟩ := h9
                exact ⟨_, rfl, hK W9 hb9⟩
              case s38 =>
                refine And.intro (by rfl) (fun tm W hS hsz hfr hdep K hK => ?_)
                change tm.size = 91 at hsz
                have t47 : tm.getD 47 undef = .func (.func 27) #[] #[.pointer (some ⟨w.heap.size, 0, none⟩)] := hdep 37 (by rfl) (by decide)
                clear hdep hfr HB0 KB0 HLT HB3 KB3 HL3 HAK HCK K0 K2 K3 K4 K5 K6 h21
                refine wp_call _ _ _ _ _ rfl t47 (by rfl) (by kernel_rfl) (K1.out W hS) (fun e W9 h9 => ?_)
                obtain ⟨rfl, hb9⟩ := h9
                exact ⟨_, rfl, hK W9 hb9⟩
              case s41 =>
                refine And.intro (by rfl) (fun tm W hS hsz hfr hdep K hK => ?_)
                change tm.size = 91 at hsz
                have t50 : tm.getD 50 undef = .func (.func 27) #[] #[.pointer (some ⟨w.heap.size, 0, none⟩)] := hdep 40 (by rfl) (by decide)
                clear hdep hfr HB0 KB0 HLT HB3 KB3 HL3 HAK HCK K0 K1 K2 K4 K5 K6 h21
                refine wp_call _ _ _ _ _ rfl t50 (by rfl) (by kernel_rfl) (K3.out W hS) (fun e W9 h9 => ?_)
                obtain ⟨rfl, hb9⟩ := h9
                exact ⟨_, rfl, hK W9 hb9⟩
              case s47 =>
                refine And.intro (by rfl) (fun tm W hS hsz hfr hdep K hK => ?_)
                change tm.size = 91 at hsz
                have t56 : tm.getD 56 undef = .func (.func 27) #[] #[.pointer (some ⟨w.heap.size, 0, none⟩)] := hdep 46 (by rfl) (by decide)
                clear hdep hfr HB0 KB0 HLT HB3 KB3 HL3 HAK HCK K0 K1 K3 K4 K5 K6 h21
                refine wp_call _ _ _ _ _ rfl t56 (by rfl) (by kernel_rfl) (K2.out W hS) (fun e W9 h9 => ?_)
                obtain ⟨rfl, hb9⟩ := h9
                exact ⟨_, rfl, hK W9 hb9⟩
              case s51 =>
                refine And.intro (by rfl) (fun tm W hS hsz hfr hdep K hK => ?_)
                change tm.size = 91 at hsz
                have t60 : tm.getD 60 undef = .func (.func 27) #[] #[.pointer (some ⟨w.heap.size, 0, none⟩)] := hdep 50 (by rfl) (by decide)
                clear hdep hfr HB0 KB0 HLT HB3 KB3 HL3 HAK HCK K0 K2 K3 K4 K5 K6 h21
                refine wp_call _ _ _ _ _ rfl t60 (by rfl) (by kernel_rfl) (K1.out W hS) (fun e W9 h9 => ?_)
                obtain ⟨rfl, hb9⟩ := h9
                exact ⟨_, rfl, hK W9 hb9⟩
              case s56 =>
                refine And.intro (by rfl) (fun tm W hS hsz hfr hdep K hK => ?_)
                change tm.size = 91 at hsz
                have t65 : tm.getD 65 undef = .func (.func 27) #[] #[.pointer (some ⟨w.heap.size, 0, none⟩)] := hdep 55 (by rfl) (by decide)
                clear hdep hfr HB0 KB0 HLT HB3 KB3 HL3 HAK HCK K0 K2 K3 K4 K5 K6 h21
                refine wp_call _ _ _ _ _ rfl t65 (by rfl) (by kernel_rfl) (K1.out W hS) (fun e W9 h9 => ?_)
                obtain ⟨rfl, hb9⟩ := h9
                exact ⟨_, rfl, hK W9 hb9⟩
              case s60 =>
                refine And.intro (by rfl) (fun tm W hS hsz hfr hdep K hK => ?_)
                change tm.size = 91 at hsz
                have t69 : tm.getD 69 undef = .func (.func 27) #[] #[.pointer (some ⟨w.heap.size, 0, none⟩)] := hdep 59 (by rfl) (by decide)
                clear hdep hfr HB0 KB0 HLT HB3 KB3 HL3 HAK HCK K1 K2 K3 K4 K5 K6 h21
                refine wp_call _ _ _ _ _ rfl t69 (by rfl) (by kernel_rfl) (K0.out W hS) (fun e W9 h9 => ?_)
                obtain ⟨rfl, hb9⟩ := h9
                exact ⟨_, rfl, hK W9 hb9⟩
            case fin =>
              intro W hS
              have HS := Lib.hid hS
              clear hS
              simp only [fillD]
              go_simp
              go_wp2_with fail
              refine (K2.out _ HS.out).mono ?_
              rintro e wx1 ⟨rfl, hbx⟩
              have HX1 := Lib.hid (HS.out.trans (hbx.mono HS.out.size))
              clear hbx
              go_wp2_with fail
              refine (K5.out _ HX1.out).mono ?_
              rintro e wx2 ⟨rfl, hbx⟩
              have HX2 := Lib.hid (HX1.out.trans (hbx.mono HX1.out.size))
              clear hbx
              go_wp2_with fail
              refine (K6.out _ HX2.out).mono ?_
              rintro e wx3 ⟨rfl, hbx⟩
              have HX3 := Lib.hid (HX2.out.trans (hbx.mono HX2.out.size))
              clear hbx
              go_wp2_with fail
              refine (HAK.out _ HX3.out).mono ?_
              rintro e wx4 ⟨rfl, hbx⟩
              have HX4 := Lib.hid (HX3.out.trans (hbx.mono HX3.out.size))
              clear hbx
              go_wp2
              go_ret
              exact ⟨rfl, (HU.out _ HX4.out).1⟩
set_option maxRecDepth 100000 in
theorem contract (H : Type) (enc : TypeId × Value → H) (W : World) (base : Nat) (args : Array Value) (ds gs : List (DataW H)) (before : List MemPlace)
    (hval : ∀ (j : Nat) t v, Tryd.f8.params[j]? = some t → args[j]? = some v → Value.okWide Tryd.prog W .any base t v)
    (hW : DataW.Whole enc Tryd.prog Tryd.f8.params.toList Rows.framesOrderSpec.vars false W args.toList ds gs before) (hE : Tab W) :
    Calls Tryd.prog 8 args W fun e W' => ∃ v, e = .returned v ∧ Rows.framesOrderSpec.post enc Tryd.prog Tryd.f8 false true false false W args v W' := by
  have hW' := hW
  obtain ⟨p, q, hA0, hV, rfl, hfz, hnd⟩ := hW
  have hA : DataW.TrodAll enc Tryd.prog W 0 (fun _ => true) true Tryd.f8.params.toList args.toList ds p := hA0
  rw [Tryd.params8] at hA hval
  obtain ⟨v0, vs0, d0, ds0, p0, q0, hargs, rfl, rfl, h0, r0⟩ := trodAll_cons hA
  obtain ⟨rfl, rfl, rfl⟩ := trodAll_nil r0
  obtain rfl : args = #[v0] := by cases args; simp_all
  obtain ⟨rfl, rfl⟩ := trodVars_none hV
  obtain ⟨m0, w0⟩ := open_mo (hval 0 25 v0 rfl rfl) h0
  have k0 := h0
  have lt0 : ∀ x ∈ p0, x.block < W.heap.size := by obtain ⟨m, hm⟩ := k0; exact DataW.trod_lt m _ _ _ hm
  clear hA0
  have hwalk := walk m0 _ W w0 hE
  refine hwalk.mono fun e W' ⟨he, hg⟩ => ?_
  subst he
  exact ⟨_, rfl, _, _, _, [], _, [], hW', trodAll_mk1 (shut_bool Tryd.underlying4 _), (trodAll_cons_mk (Below.trod laidOut (by kernel_rfl) (of_decide_eq_true (by kernel_rfl)) k0 hg lt0) trodAll_mk0), rfl, hg.frame _, fun h => by cases h⟩
theorem reads (os : Os) {H : Type} (enc : TypeId × Value → H) : ∃ places, DataW.whole enc Tryd.prog ((laidW os).forCall (fun _ _ => 0) ⟨#[], #[.agg #[.int .i64 0, .slice none 0 0, .slice none 0 0]], []⟩).memory Tryd.f8.params.toList Rows.framesOrderSpec.vars false #[(.agg #[.int .i64 0, .slice none 0 0, .slice none 0 0] : Value)].toList 8 = some ([.agg [.lit (.int .i64 0), .nil, .nil]], [], places) :=
  ⟨[], by kernel_rfl⟩
set_option maxRecDepth 100000 in
theorem lifted (os : Os) (started : os.Started) (H : Type) (enc : TypeId × Value → H) (F : Stop.Interp) :
    ReturnsInHanded {} Tryd.checked os 8 .any ((OpenSpec.ofChange Rows.framesOrderSpec).preRow enc Tryd.prog Tryd.f8 Rows.framesOrderRow.domain false Rows.framesOrderRow.laid) (((OpenSpec.ofChange Rows.framesOrderSpec).at F).post enc Tryd.prog Tryd.f8 false true false false) := by
  obtain ⟨places, hx⟩ := reads os enc
  refine returnsInHanded_of_row (C := Tryd.checked) (s := OpenSpec.ofChange Rows.framesOrderSpec) own started (by kernel_rfl) Tryd.func8
    (witness_row_atRef (enc := enc) (C := Tryd.checked) false (laidW os) #[.agg #[.int .i64 0, .slice none 0 0, .slice none 0 0]] (laidW_os os) (vars_ok os _) (heap_ok os _) (by kernel_rfl)
      (OpenSpec.preRow_of_cond 8 hx (by kernel_rfl) (fun k hk => by cases hk) (by kernel_rfl) (laid_met os _))) ?_
  intro W base args ds gs before hval hW _ _ _ hL hsh _
  exact contract H enc W base args ds gs before hval hW (env_of hL)
theorem said : Rows.FramesOrderSaid :=
  OpenClaim.holds_of_cond 8 Tryd.f8 rfl rfl rfl rfl rfl rfl rfl ⟨rfl, rfl, rfl, rfl, rfl⟩ rfl rfl rfl rfl rfl (by kernel_rfl) Tryd.func8 (by kernel_rfl)
    (of_decide_eq_true (by kernel_rfl)) (by unfold Func.isWrapper; first | (rw [if_pos (by decide +kernel)]; kernel_rfl) | (rw [if_neg (by decide +kernel)]; exact ⟨rfl, rfl⟩))
    (fun os started H enc _ F => by rw [OpenClaim.pre_eq_preRow]; exact lifted os started H enc F)
theorem plain (f : FuncId) (fn : Func) (hf : Tryd.pinned.checked.prog.funcNamed "witting/wittinglaw15.FramesOrder" = some f) (hfn : Tryd.pinned.checked.prog.funcs[f]? = some fn) :
    false = Tryd.pinned.checked.prog.looks [] ∧ ∀ (j : Nat) t, fn.params[j]? = some t → Tryd.pinned.checked.prog.wantsStandIn t = false := by
  obtain rfl : f = 8 := Option.some.inj ((show Tryd.prog.funcNamed "witting/wittinglaw15.FramesOrder" = some 8 by kernel_rfl).symm.trans hf) |>.symm
  obtain rfl : fn = Tryd.f8 := (Option.some.inj (Tryd.func8.symm.trans hfn)).symm
  refine ⟨no_looks, fun j t ht => ?_⟩
  rw [Tryd.params8] at ht
  have hm : t ∈ [25] := by simpa using Array.mem_of_getElem? ht
  have hall : ([25].all fun u => !Tryd.prog.wantsStandIn u) = true := by kernel_rfl
  exact (show Tryd.prog.wantsStandIn t = false by simpa using List.all_eq_true.1 hall t hm)
theorem card : Rows.FramesOrderCardSaid :=
  Claim7.holds_tied_plain_at .later [] _ _ _ _ said (fun _ h => by cases h) (by kernel_rfl) (fun _ h => by cases h) framesOrder_row_tie rfl ⟨rfl, rfl⟩ (by kernel_rfl) rfl plain (by kernel_rfl)
#print axioms card
end Go.Proofs.YtkhalapppkhopaaDoor.framesOrder
