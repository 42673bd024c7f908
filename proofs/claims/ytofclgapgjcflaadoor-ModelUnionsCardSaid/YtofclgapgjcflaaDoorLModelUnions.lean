/- ModelUnions (P13.3): Union and Rename return the specified models and errors. No condition. -/
import Derived.Test.YtofclgapgjcflaaDoorEg
import Derived.Test.YtofclgapgjcflaaDoorEp
import Derived.Test.YtofclgapgjcflaaDoorEe
import Derived.Test.YtofclgapgjcflaaDoorDv
namespace Go.Proofs.YtofclgapgjcflaaDoor.modelUnions
open Go.ChangeShapes Go.WideShapes Go.ChangeAt Go.RowKit Go.Proofs.YtofclgapgjcflaaDoor Go.Proofs.YtofclgapgjcflaaDoor.mdl Go.Proofs.Ws
open Go.ChangeMaps (open_string shut_string)
set_option maxRecDepth 100000
set_option maxHeartbeats 16000000 in
theorem walk (a b : Mo) (v v' : Value) (tp : List Int) (T : Option Addr) (q ct : Nat) (w : World) (hM : MoR w w.heap.size v a) (hM2 : MoR w w.heap.size v' b) (hI : Reads w w.heap.size 1 T q (ints tp)) (hq : q ≤ maxLen) (hT : Tab w) :
    Calls Tryd.prog 5 #[v, v', .slice T q ct] w fun e w' => e = .returned (.bool true) ∧ Below w.heap.size w w' := by
  obtain ⟨A1, c1, A2, c2, rfl, _, _⟩ := hM.ex
  obtain ⟨B1, d1, B2, d2, rfl, _, _⟩ := hM2.ex
  have HMA := Lib.hid (fun W (hb : Below w.heap.size w W) => hM.below hb hb.size)
  have HMB := Lib.hid (fun W (hb : Below w.heap.size w W) => hM2.below hb hb.size)
  have HTW := Lib.hid (fun W (hb : Below w.heap.size w W) => hT.below hb)
  have HIW := Lib.hid (fun W (hb : Below w.heap.size w W) => (hI.below hb).more hb.size)
  have HQ := Lib.hid hq
  have HAW : Hid (∀ W, Below w.heap.size w W → Calls Tryd.prog 11 #[] W fun e w' => e = .returned (.bool true) ∧ Below W.heap.size W w') := Lib.hid (fun W hb => awake13_any W (hT.below hb))
  have HFA : Hid (∀ W, Below w.heap.size w W → Calls Tryd.prog 12 #[.agg #[.int .i64 a.n, .slice A1 a.val.length c1, .slice A2 a.rel.length c2]] W fun e w' => e = .returned (.bool (fewM a)) ∧ Below W.heap.size W w') := Lib.hid (fun W hb => lFew_any a _ W (HMA.out W hb))
  have HFB : Hid (∀ W, Below w.heap.size w W → Calls Tryd.prog 12 #[.agg #[.int .i64 b.n, .slice B1 b.val.length d1, .slice B2 b.rel.length d2]] W fun e w' => e = .returned (.bool (fewM b)) ∧ Below W.heap.size W w') := Lib.hid (fun W hb => lFew_any b _ W (HMB.out W hb))
  obtain ⟨t1, t2, t3⟩ := two_at w #[.int .i64 a.n, .slice A1 a.val.length c1, .slice A2 a.rel.length c2] #[.int .i64 b.n, .slice B1 b.val.length d1, .slice B2 b.rel.length d2] 25 25
  have HX : Hid (MBox _ w.heap.size a.n (.slice A1 a.val.length c1) (.slice A2 a.rel.length c2)) := Lib.hid t1
  have HY : Hid (MBox _ (w.heap.size + 1) b.n (.slice B1 b.val.length d1) (.slice B2 b.rel.length d2)) := Lib.hid t2
  have HB := Lib.hid t3
  clear hM hM2 hT t1 t2 t3 hI hq
  by_cases hfa : fewM a = true
  case neg =>
    have hfa2 : fewM a = false := by simpa using hfa
    rw [hfa2] at HFA
    clear hfa hfa2
    go_enter Tryd.func5, Tryd.ntmps5
    go_wp2_with fail
    generalize hW : (w.alloc (.cells #[.int .i64 a.n, .slice A1 a.val.length c1, .slice A2 a.rel.length c2] 25)).alloc (.cells #[.int .i64 b.n, .slice B1 b.val.length d1, .slice B2 b.rel.length d2] 25) = w1 at *
    clear hW
    refine (HAW.out _ HB.out).mono ?_
    rintro e w2 ⟨rfl, hb⟩
    replace HB := Lib.hid (upB HB.out (Nat.le_refl _) hb)
    replace HX := Lib.hid (upX HX.out hb)
    replace HY := Lib.hid (upX HY.out hb)
    clear hb
    have HX_0 := HX.out.c0
    have HX_1 := HX.out.c1
    have HX_2 := HX.out.c2
    have HX_l := HX.out.lt
    have HY_0 := HY.out.c0
    have HY_1 := HY.out.c1
    have HY_2 := HY.out.c2
    have HY_l := HY.out.lt
    go_wp2_with fail
    clear HX_0 HX_1 HX_2 HX_l
    clear HY_0 HY_1 HY_2 HY_l
    refine (HFA.out _ HB.out).mono ?_
    rintro e w3 ⟨rfl, hb⟩
    replace HB := Lib.hid (upB HB.out (Nat.le_refl _) hb)
    replace HX := Lib.hid (upX HX.out hb)
    replace HY := Lib.hid (upX HY.out hb)
    clear hb
    have HX_0 := HX.out.c0
    have HX_1 := HX.out.c1
    have HX_2 := HX.out.c2
    have HX_l := HX.out.lt
    have HY_0 := HY.out.c0
    have HY_1 := HY.out.c1
    have HY_2 := HY.out.c2
    have HY_l := HY.out.lt
    go_wp2_with fail
    clear HX_0 HX_1 HX_2 HX_l
    clear HY_0 HY_1 HY_2 HY_l
    refine (HAW.out _ HB.out).mono ?_
    rintro e w4 ⟨rfl, hb⟩
    replace HB := Lib.hid (upB HB.out (Nat.le_refl _) hb)
    replace HX := Lib.hid (upX HX.out hb)
    replace HY := Lib.hid (upX HY.out hb)
    clear hb
    go_wp2
    go_ret
    exact ⟨rfl, HB.out⟩
  case pos =>
    rw [hfa] at HFA
    clear hfa
    by_cases hfb : fewM b = true
    case neg =>
      have hfb2 : fewM b = false := by simpa using hfb
      rw [hfb2] at HFB
      clear hfb hfb2
      go_enter Tryd.func5, Tryd.ntmps5
      go_wp2_with fail
      generalize hW : (w.alloc (.cells #[.int .i64 a.n, .slice A1 a.val.length c1, .slice A2 a.rel.length c2] 25)).alloc (.cells #[.int .i64 b.n, .slice B1 b.val.length d1, .slice B2 b.rel.length d2] 25) = w1 at *
      clear hW
      refine (HAW.out _ HB.out).mono ?_
      rintro e w2 ⟨rfl, hb⟩
      replace HB := Lib.hid (upB HB.out (Nat.le_refl _) hb)
      replace HX := Lib.hid (upX HX.out hb)
      replace HY := Lib.hid (upX HY.out hb)
      clear hb
      have HX_0 := HX.out.c0
      have HX_1 := HX.out.c1
      have HX_2 := HX.out.c2
      have HX_l := HX.out.lt
      have HY_0 := HY.out.c0
      have HY_1 := HY.out.c1
      have HY_2 := HY.out.c2
      have HY_l := HY.out.lt
      go_wp2_with fail
      clear HX_0 HX_1 HX_2 HX_l
      clear HY_0 HY_1 HY_2 HY_l
      refine (HFA.out _ HB.out).mono ?_
      rintro e w3 ⟨rfl, hb⟩
      replace HB := Lib.hid (upB HB.out (Nat.le_refl _) hb)
      replace HX := Lib.hid (upX HX.out hb)
      replace HY := Lib.hid (upX HY.out hb)
      clear hb
      have HX_0 := HX.out.c0
      have HX_1 := HX.out.c1
      have HX_2 := HX.out.c2
      have HX_l := HX.out.lt
      have HY_0 := HY.out.c0
      have HY_1 := HY.out.c1
      have HY_2 := HY.out.c2
      have HY_l := HY.out.lt
      go_wp2_with fail
      clear HX_0 HX_1 HX_2 HX_l
      clear HY_0 HY_1 HY_2 HY_l
      refine (HFB.out _ HB.out).mono ?_
      rintro e w4 ⟨rfl, hb⟩
      replace HB := Lib.hid (upB HB.out (Nat.le_refl _) hb)
      replace HX := Lib.hid (upX HX.out hb)
      replace HY := Lib.hid (upX HY.out hb)
      clear hb
      have HX_0 := HX.out.c0
      have HX_1 := HX.out.c1
      have HX_2 := HX.out.c2
      have HX_l := HX.out.lt
      have HY_0 := HY.out.c0
      have HY_1 := HY.out.c1
      have HY_2 := HY.out.c2
      have HY_l := HY.out.lt
      go_wp2_with fail
      clear HX_0 HX_1 HX_2 HX_l
      clear HY_0 HY_1 HY_2 HY_l
      refine (HAW.out _ HB.out).mono ?_
      rintro e w5 ⟨rfl, hb⟩
      replace HB := Lib.hid (upB HB.out (Nat.le_refl _) hb)
      replace HX := Lib.hid (upX HX.out hb)
      replace HY := Lib.hid (upX HY.out hb)
      clear hb
      go_wp2
      go_ret
      exact ⟨rfl, HB.out⟩
    case pos =>
      rw [hfb] at HFB
      clear hfb
      by_cases h70 : 70 < q
      case pos =>
        have d7 : decide ((70 : Int) < (q : Int)) = true := decide_eq_true (by omega)
        have d7n : decide (70 < q) = true := decide_eq_true h70
        clear h70
        go_enter Tryd.func5, Tryd.ntmps5
        go_wp2_with fail
        generalize hW : (w.alloc (.cells #[.int .i64 a.n, .slice A1 a.val.length c1, .slice A2 a.rel.length c2] 25)).alloc (.cells #[.int .i64 b.n, .slice B1 b.val.length d1, .slice B2 b.rel.length d2] 25) = w1 at *
        clear hW
        refine (HAW.out _ HB.out).mono ?_
        rintro e w2 ⟨rfl, hb⟩
        replace HB := Lib.hid (upB HB.out (Nat.le_refl _) hb)
        replace HX := Lib.hid (upX HX.out hb)
        replace HY := Lib.hid (upX HY.out hb)
        clear hb
        have HX_0 := HX.out.c0
        have HX_1 := HX.out.c1
        have HX_2 := HX.out.c2
        have HX_l := HX.out.lt
        have HY_0 := HY.out.c0
        have HY_1 := HY.out.c1
        have HY_2 := HY.out.c2
        have HY_l := HY.out.lt
        go_wp2_with fail
        clear HX_0 HX_1 HX_2 HX_l
        clear HY_0 HY_1 HY_2 HY_l
        refine (HFA.out _ HB.out).mono ?_
        rintro e w3 ⟨rfl, hb⟩
        replace HB := Lib.hid (upB HB.out (Nat.le_refl _) hb)
        replace HX := Lib.hid (upX HX.out hb)
        replace HY := Lib.hid (upX HY.out hb)
        clear hb
        have HX_0 := HX.out.c0
        have HX_1 := HX.out.c1
        have HX_2 := HX.out.c2
        have HX_l := HX.out.lt
        have HY_0 := HY.out.c0
        have HY_1 := HY.out.c1
        have HY_2 := HY.out.c2
        have HY_l := HY.out.lt
        go_wp2_with fail
        clear HX_0 HX_1 HX_2 HX_l
        clear HY_0 HY_1 HY_2 HY_l
        refine (HFB.out _ HB.out).mono ?_
        rintro e w4 ⟨rfl, hb⟩
        replace HB := Lib.hid (upB HB.out (Nat.le_refl _) hb)
        replace HX := Lib.hid (upX HX.out hb)
        replace HY := Lib.hid (upX HY.out hb)
        clear hb
        have HX_0 := HX.out.c0
        have HX_1 := HX.out.c1
        have HX_2 := HX.out.c2
        have HX_l := HX.out.lt
        have HY_0 := HY.out.c0
        have HY_1 := HY.out.c1
        have HY_2 := HY.out.c2
        have HY_l := HY.out.lt
        go_wp2_with fail
        clear HX_0 HX_1 HX_2 HX_l
        clear HY_0 HY_1 HY_2 HY_l
        refine (HAW.out _ HB.out).mono ?_
        rintro e w5 ⟨rfl, hb⟩
        replace HB := Lib.hid (upB HB.out (Nat.le_refl _) hb)
        replace HX := Lib.hid (upX HX.out hb)
        replace HY := Lib.hid (upX HY.out hb)
        clear hb
        go_wp2
        go_ret
        exact ⟨rfl, HB.out⟩
      case neg =>
        have d7 : decide ((70 : Int) < (q : Int)) = false := decide_eq_false (by omega)
        have d7n : decide (70 < q) = false := decide_eq_false h70
        clear h70
        go_enter Tryd.func5, Tryd.ntmps5
        go_wp2_with fail
        generalize hW : (w.alloc (.cells #[.int .i64 a.n, .slice A1 a.val.length c1, .slice A2 a.rel.length c2] 25)).alloc (.cells #[.int .i64 b.n, .slice B1 b.val.length d1, .slice B2 b.rel.length d2] 25) = w1 at *
        clear hW
        refine (HAW.out _ HB.out).mono ?_
        rintro e w2 ⟨rfl, hb⟩
        replace HB := Lib.hid (upB HB.out (Nat.le_refl _) hb)
        replace HX := Lib.hid (upX HX.out hb)
        replace HY := Lib.hid (upX HY.out hb)
        clear hb
        have HX_0 := HX.out.c0
        have HX_1 := HX.out.c1
        have HX_2 := HX.out.c2
        have HX_l := HX.out.lt
        have HY_0 := HY.out.c0
        have HY_1 := HY.out.c1
        have HY_2 := HY.out.c2
        have HY_l := HY.out.lt
        go_wp2_with fail
        clear HX_0 HX_1 HX_2 HX_l
        clear HY_0 HY_1 HY_2 HY_l
        refine (HFA.out _ HB.out).mono ?_
        rintro e w3 ⟨rfl, hb⟩
        replace HB := Lib.hid (upB HB.out (Nat.le_refl _) hb)
        replace HX := Lib.hid (upX HX.out hb)
        replace HY := Lib.hid (upX HY.out hb)
        clear hb
        have HX_0 := HX.out.c0
        have HX_1 := HX.out.c1
        have HX_2 := HX.out.c2
        have HX_l := HX.out.lt
        have HY_0 := HY.out.c0
        have HY_1 := HY.out.c1
        have HY_2 := HY.out.c2
        have HY_l := HY.out.lt
        go_wp2_with fail
        clear HX_0 HX_1 HX_2 HX_l
        clear HY_0 HY_1 HY_2 HY_l
        refine (HFB.out _ HB.out).mono ?_
        rintro e w4 ⟨rfl, hb⟩
        replace HB := Lib.hid (upB HB.out (Nat.le_refl _) hb)
        replace HX := Lib.hid (upX HX.out hb)
        replace HY := Lib.hid (upX HY.out hb)
        clear hb
        have HX_0 := HX.out.c0
        have HX_1 := HX.out.c1
        have HX_2 := HX.out.c2
        have HX_l := HX.out.lt
        have HY_0 := HY.out.c0
        have HY_1 := HY.out.c1
        have HY_2 := HY.out.c2
        have HY_l := HY.out.lt
        go_wp2_with fail
        clear HX_0 HX_1 HX_2 HX_l
        clear HY_0 HY_1 HY_2 HY_l
        refine (pUnion_any a b _ _ w4 (HMA.out _ HB.out) (HMB.out _ HB.out)).mono ?_
        rintro e w5 ⟨u, rfl, hm, hb⟩
        replace HB := Lib.hid (upB HB.out (Nat.le_refl _) hb)
        replace HX := Lib.hid (upX HX.out hb)
        replace HY := Lib.hid (upX HY.out hb)
        clear hb
        have hm := hm.self
        obtain ⟨U1, Uc1, U2, Uc2, rfl, _, _⟩ := hm.ex
        have HMU := Lib.hid hm
        clear hm
        have HX_0 := HX.out.c0
        have HX_1 := HX.out.c1
        have HX_2 := HX.out.c2
        have HX_l := HX.out.lt
        have HY_0 := HY.out.c0
        have HY_1 := HY.out.c1
        have HY_2 := HY.out.c2
        have HY_l := HY.out.lt
        go_wp2_with fail
        clear HX_0 HX_1 HX_2 HX_l
        clear HY_0 HY_1 HY_2 HY_l
        have hb : Below w5.heap.size w5 (w5.alloc (.cells #[.int .i64 ((unionM a b).n), .slice U1 (unionM a b).val.length Uc1, .slice U2 (unionM a b).rel.length Uc2] 25)) := (Below.refl _ _).alloc (Nat.le_refl _) _
        have HXU := Lib.hid (MBox.made w5 ((unionM a b).n) (.slice U1 (unionM a b).val.length Uc1) (.slice U2 (unionM a b).rel.length Uc2))
        generalize hW : w5.alloc (.cells #[.int .i64 ((unionM a b).n), .slice U1 (unionM a b).val.length Uc1, .slice U2 (unionM a b).rel.length Uc2] 25) = w6 at *
        clear hW
        replace HB := Lib.hid (upB HB.out (Nat.le_refl _) hb)
        replace HX := Lib.hid (upX HX.out hb)
        replace HY := Lib.hid (upX HY.out hb)
        replace HMU := Lib.hid (upM HMU.out hb)
        clear hb
        generalize w5.heap.size = bHXU at *
        refine (rUnion_any a b _ _ w6 (HMA.out _ HB.out) (HMB.out _ HB.out)).mono ?_
        rintro e w7 ⟨u, rfl, hm, hb⟩
        replace HB := Lib.hid (upB HB.out (Nat.le_refl _) hb)
        replace HX := Lib.hid (upX HX.out hb)
        replace HY := Lib.hid (upX HY.out hb)
        replace HMU := Lib.hid (upM HMU.out hb)
        replace HXU := Lib.hid (upX HXU.out hb)
        clear hb
        have hm := hm.self
        obtain ⟨V1, Vc1, V2, Vc2, rfl, _, _⟩ := hm.ex
        have HMV := Lib.hid hm
        clear hm
        have HX_0 := HX.out.c0
        have HX_1 := HX.out.c1
        have HX_2 := HX.out.c2
        have HX_l := HX.out.lt
        go_wp2_with fail
        clear HX_0 HX_1 HX_2 HX_l
        have hb : Below w7.heap.size w7 (w7.alloc (.cells #[.int .i64 ((unionM a b).n), .slice V1 (unionM a b).val.length Vc1, .slice V2 (unionM a b).rel.length Vc2] 25)) := (Below.refl _ _).alloc (Nat.le_refl _) _
        have HXV := Lib.hid (MBox.made w7 ((unionM a b).n) (.slice V1 (unionM a b).val.length Vc1) (.slice V2 (unionM a b).rel.length Vc2))
        generalize hW : w7.alloc (.cells #[.int .i64 ((unionM a b).n), .slice V1 (unionM a b).val.length Vc1, .slice V2 (unionM a b).rel.length Vc2] 25) = w8 at *
        clear hW
        replace HB := Lib.hid (upB HB.out (Nat.le_refl _) hb)
        replace HX := Lib.hid (upX HX.out hb)
        replace HY := Lib.hid (upX HY.out hb)
        replace HMU := Lib.hid (upM HMU.out hb)
        replace HXU := Lib.hid (upX HXU.out hb)
        replace HMV := Lib.hid (upM HMV.out hb)
        clear hb
        generalize w7.heap.size = bHXV at *
        refine (pRename_any a _ tp T q ct w8 (HMA.out _ HB.out) (HIW.out _ HB.out) HQ.out).mono ?_
        rintro e w9 ⟨u, rfl, hm, hb⟩
        replace HB := Lib.hid (upB HB.out (Nat.le_refl _) hb)
        replace HX := Lib.hid (upX HX.out hb)
        replace HY := Lib.hid (upX HY.out hb)
        replace HMU := Lib.hid (upM HMU.out hb)
        replace HXU := Lib.hid (upX HXU.out hb)
        replace HMV := Lib.hid (upM HMV.out hb)
        replace HXV := Lib.hid (upX HXV.out hb)
        clear hb
        have hm := hm.self
        obtain ⟨R1, Rc1, R2, Rc2, rfl, _, _⟩ := hm.ex
        have HMR := Lib.hid hm
        clear hm
        have HX_0 := HX.out.c0
        have HX_1 := HX.out.c1
        have HX_2 := HX.out.c2
        have HX_l := HX.out.lt
        go_wp2_with fail
        clear HX_0 HX_1 HX_2 HX_l
        have hb : Below w9.heap.size w9 (w9.alloc (.cells #[.int .i64 ((renM a tp).n), .slice R1 (renM a tp).val.length Rc1, .slice R2 (renM a tp).rel.length Rc2] 25)) := (Below.refl _ _).alloc (Nat.le_refl _) _
        have HXR := Lib.hid (MBox.made w9 ((renM a tp).n) (.slice R1 (renM a tp).val.length Rc1) (.slice R2 (renM a tp).rel.length Rc2))
        generalize hW : w9.alloc (.cells #[.int .i64 ((renM a tp).n), .slice R1 (renM a tp).val.length Rc1, .slice R2 (renM a tp).rel.length Rc2] 25) = w10 at *
        clear hW
        replace HB := Lib.hid (upB HB.out (Nat.le_refl _) hb)
        replace HX := Lib.hid (upX HX.out hb)
        replace HY := Lib.hid (upX HY.out hb)
        replace HMU := Lib.hid (upM HMU.out hb)
        replace HXU := Lib.hid (upX HXU.out hb)
        replace HMV := Lib.hid (upM HMV.out hb)
        replace HXV := Lib.hid (upX HXV.out hb)
        replace HMR := Lib.hid (upM HMR.out hb)
        clear hb
        generalize w9.heap.size = bHXR at *
        refine (rRename_any a _ tp T q ct w10 (HMA.out _ HB.out) (HIW.out _ HB.out) HQ.out).mono ?_
        rintro e w11 ⟨u, rfl, hm, hb⟩
        replace HB := Lib.hid (upB HB.out (Nat.le_refl _) hb)
        replace HX := Lib.hid (upX HX.out hb)
        replace HY := Lib.hid (upX HY.out hb)
        replace HMU := Lib.hid (upM HMU.out hb)
        replace HXU := Lib.hid (upX HXU.out hb)
        replace HMV := Lib.hid (upM HMV.out hb)
        replace HXV := Lib.hid (upX HXV.out hb)
        replace HMR := Lib.hid (upM HMR.out hb)
        replace HXR := Lib.hid (upX HXR.out hb)
        clear hb
        have hm := hm.self
        obtain ⟨S1, Sc1, S2, Sc2, rfl, _, _⟩ := hm.ex
        have HMS := Lib.hid hm
        clear hm
        have HXU_0 := HXU.out.c0
        have HXU_1 := HXU.out.c1
        have HXU_2 := HXU.out.c2
        have HXU_l := HXU.out.lt
        have HXV_0 := HXV.out.c0
        have HXV_1 := HXV.out.c1
        have HXV_2 := HXV.out.c2
        have HXV_l := HXV.out.lt
        go_wp2_with fail
        clear HXU_0 HXU_1 HXU_2 HXU_l
        clear HXV_0 HXV_1 HXV_2 HXV_l
        have hb : Below w11.heap.size w11 (w11.alloc (.cells #[.int .i64 ((renM a tp).n), .slice S1 (renM a tp).val.length Sc1, .slice S2 (renM a tp).rel.length Sc2] 25)) := (Below.refl _ _).alloc (Nat.le_refl _) _
        have HXS := Lib.hid (MBox.made w11 ((renM a tp).n) (.slice S1 (renM a tp).val.length Sc1) (.slice S2 (renM a tp).rel.length Sc2))
        generalize hW : w11.alloc (.cells #[.int .i64 ((renM a tp).n), .slice S1 (renM a tp).val.length Sc1, .slice S2 (renM a tp).rel.length Sc2] 25) = w12 at *
        clear hW
        replace HB := Lib.hid (upB HB.out (Nat.le_refl _) hb)
        replace HX := Lib.hid (upX HX.out hb)
        replace HY := Lib.hid (upX HY.out hb)
        replace HMU := Lib.hid (upM HMU.out hb)
        replace HXU := Lib.hid (upX HXU.out hb)
        replace HMV := Lib.hid (upM HMV.out hb)
        replace HXV := Lib.hid (upX HXV.out hb)
        replace HMR := Lib.hid (upM HMR.out hb)
        replace HXR := Lib.hid (upX HXR.out hb)
        replace HMS := Lib.hid (upM HMS.out hb)
        clear hb
        generalize w11.heap.size = bHXS at *
        refine (rSame_any (unionM a b) (unionM a b) _ _ w12 HMU.out HMV.out).mono ?_
        rintro e w13 ⟨rfl, hb⟩
        replace HB := Lib.hid (upB HB.out (Nat.le_refl _) hb)
        replace HX := Lib.hid (upX HX.out hb)
        replace HY := Lib.hid (upX HY.out hb)
        replace HMU := Lib.hid (upM HMU.out hb)
        replace HXU := Lib.hid (upX HXU.out hb)
        replace HMV := Lib.hid (upM HMV.out hb)
        replace HXV := Lib.hid (upX HXV.out hb)
        replace HMR := Lib.hid (upM HMR.out hb)
        replace HXR := Lib.hid (upX HXR.out hb)
        replace HMS := Lib.hid (upM HMS.out hb)
        replace HXS := Lib.hid (upX HXS.out hb)
        clear hb
        rw [show decide (unionM a b = unionM a b) = true from decide_eq_true rfl]
        have HXR_0 := HXR.out.c0
        have HXR_1 := HXR.out.c1
        have HXR_2 := HXR.out.c2
        have HXR_l := HXR.out.lt
        have HXS_0 := HXS.out.c0
        have HXS_1 := HXS.out.c1
        have HXS_2 := HXS.out.c2
        have HXS_l := HXS.out.lt
        go_wp2_with fail
        clear HXR_0 HXR_1 HXR_2 HXR_l
        clear HXS_0 HXS_1 HXS_2 HXS_l
        refine (rSame_any (renM a tp) (renM a tp) _ _ w13 HMR.out HMS.out).mono ?_
        rintro e w14 ⟨rfl, hb⟩
        replace HB := Lib.hid (upB HB.out (Nat.le_refl _) hb)
        replace HX := Lib.hid (upX HX.out hb)
        replace HY := Lib.hid (upX HY.out hb)
        replace HMU := Lib.hid (upM HMU.out hb)
        replace HXU := Lib.hid (upX HXU.out hb)
        replace HMV := Lib.hid (upM HMV.out hb)
        replace HXV := Lib.hid (upX HXV.out hb)
        replace HMR := Lib.hid (upM HMR.out hb)
        replace HXR := Lib.hid (upX HXR.out hb)
        replace HMS := Lib.hid (upM HMS.out hb)
        replace HXS := Lib.hid (upX HXS.out hb)
        clear hb
        rw [show decide (renM a tp = renM a tp) = true from decide_eq_true rfl]
        go_wp2
        go_ret
        exact ⟨rfl, HB.out⟩
set_option maxRecDepth 100000 in
theorem contract (H : Type) (enc : TypeId × Value → H) (W : World) (base : Nat) (args : Array Value) (ds gs : List (DataW H)) (before : List MemPlace)
    (hval : ∀ (j : Nat) t v, Tryd.f5.params[j]? = some t → args[j]? = some v → Value.okWide Tryd.prog W .any base t v)
    (hW : DataW.Whole enc Tryd.prog Tryd.f5.params.toList Rows.modelUnionsSpec.vars false W args.toList ds gs before) (hE : Tab W) :
    Calls Tryd.prog 5 args W fun e W' => ∃ v, e = .returned v ∧ Rows.modelUnionsSpec.post enc Tryd.prog Tryd.f5 false true false false W args v W' := by
  have hW' := hW
  obtain ⟨p, q, hA0, hV, rfl, hfz, hnd⟩ := hW
  have hA : DataW.TrodAll enc Tryd.prog W 0 (fun _ => true) true Tryd.f5.params.toList args.toList ds p := hA0
  rw [Tryd.params5] at hA hval
  obtain ⟨v0, vs0, d0, ds0, p0, q0, hargs, rfl, rfl, h0, r0⟩ := trodAll_cons hA
  obtain ⟨v1, vs1, d1, ds1, p1, q1, rfl, rfl, rfl, h1, r1⟩ := trodAll_cons r0
  obtain ⟨v2, vs2, d2, ds2, p2, q2, rfl, rfl, rfl, h2, r2⟩ := trodAll_cons r1
  obtain ⟨rfl, rfl, rfl⟩ := trodAll_nil r2
  obtain rfl : args = #[v0, v1, v2] := by cases args; simp_all
  obtain ⟨rfl, rfl⟩ := trodVars_none hV
  obtain ⟨m0, w0⟩ := open_mo (hval 0 25 v0 rfl rfl) h0
  have k0 := h0
  have lt0 : ∀ x ∈ p0, x.block < W.heap.size := by obtain ⟨m, hm⟩ := k0; exact DataW.trod_lt m _ _ _ hm
  obtain ⟨m1, w1⟩ := open_mo (hval 1 25 v1 rfl rfl) h1
  have k1 := h1
  have lt1 : ∀ x ∈ p1, x.block < W.heap.size := by obtain ⟨m, hm⟩ := k1; exact DataW.trod_lt m _ _ _ hm
  obtain ⟨A2, n2, c2, rfl⟩ := okWide_slice Tryd.underlying32 (hval 2 32 v2 rfl rfl)
  obtain ⟨l2, w2⟩ : ∃ l, IRow W A2 n2 c2 l := by
    obtain ⟨fuel, hf⟩ := h2
    exact open_is hf
  have k2 := h2
  have lt2 : ∀ x ∈ p2, x.block < W.heap.size := by obtain ⟨m, hm⟩ := k2; exact DataW.trod_lt m _ _ _ hm
  clear hA0
  have hwalk := walk m0 m1 _ _ l2 A2 n2 c2 W w0 w1 w2.1 w2.2.2 hE
  refine hwalk.mono fun e W' ⟨he, hg⟩ => ?_
  subst he
  exact ⟨_, rfl, _, _, _, [], _, [], hW', trodAll_mk1 (shut_bool Tryd.underlying4 _), (trodAll_cons_mk (Below.trod laidOut (by kernel_rfl) (of_decide_eq_true (by kernel_rfl)) k0 hg lt0) (trodAll_cons_mk (Below.trod laidOut (by kernel_rfl) (of_decide_eq_true (by kernel_rfl)) k1 hg lt1) (trodAll_cons_mk (Below.trod laidOut (by kernel_rfl) (of_decide_eq_true (by kernel_rfl)) k2 hg lt2) trodAll_mk0))), rfl, hg.frame _, fun h => by cases h⟩
theorem reads (os : Os) {H : Type} (enc : TypeId × Value → H) : ∃ places, DataW.whole enc Tryd.prog ((laidW os).forCall (fun _ _ => 0) ⟨#[], #[.agg #[.int .i64 0, .slice none 0 0, .slice none 0 0], .agg #[.int .i64 0, .slice none 0 0, .slice none 0 0], .slice none 0 0], []⟩).memory Tryd.f5.params.toList Rows.modelUnionsSpec.vars false #[(.agg #[.int .i64 0, .slice none 0 0, .slice none 0 0] : Value), (.agg #[.int .i64 0, .slice none 0 0, .slice none 0 0] : Value), (.slice none 0 0 : Value)].toList 8 = some ([.agg [.lit (.int .i64 0), .nil, .nil], .agg [.lit (.int .i64 0), .nil, .nil], .nil], [], places) :=
  ⟨[], by kernel_rfl⟩
set_option maxRecDepth 100000 in
theorem lifted (os : Os) (started : os.Started) (H : Type) (enc : TypeId × Value → H) (F : Stop.Interp) :
    ReturnsInHanded {} Tryd.checked os 5 .any ((OpenSpec.ofChange Rows.modelUnionsSpec).preRow enc Tryd.prog Tryd.f5 Rows.modelUnionsRow.domain false Rows.modelUnionsRow.laid) (((OpenSpec.ofChange Rows.modelUnionsSpec).at F).post enc Tryd.prog Tryd.f5 false true false false) := by
  obtain ⟨places, hx⟩ := reads os enc
  refine returnsInHanded_of_row (C := Tryd.checked) (s := OpenSpec.ofChange Rows.modelUnionsSpec) own started (by kernel_rfl) Tryd.func5
    (witness_row_atRef (enc := enc) (C := Tryd.checked) false (laidW os) #[.agg #[.int .i64 0, .slice none 0 0, .slice none 0 0], .agg #[.int .i64 0, .slice none 0 0, .slice none 0 0], .slice none 0 0] (laidW_os os) (vars_ok os _) (heap_ok os _) (by kernel_rfl)
      (OpenSpec.preRow_of_cond 8 hx (by kernel_rfl) (fun k hk => by cases hk) (by kernel_rfl) (laid_met os _))) ?_
  intro W base args ds gs before hval hW _ _ _ hL hsh _
  exact contract H enc W base args ds gs before hval hW (env_of hL)
theorem said : Rows.ModelUnionsSaid :=
  OpenClaim.holds_of_cond 5 Tryd.f5 rfl rfl rfl rfl rfl rfl rfl ⟨rfl, rfl, rfl, rfl, rfl⟩ rfl rfl rfl rfl rfl (by kernel_rfl) Tryd.func5 (by kernel_rfl)
    (of_decide_eq_true (by kernel_rfl)) (by unfold Func.isWrapper; first | (rw [if_pos (by decide +kernel)]; kernel_rfl) | (rw [if_neg (by decide +kernel)]; exact ⟨rfl, rfl⟩))
    (fun os started H enc _ F => by rw [OpenClaim.pre_eq_preRow]; exact lifted os started H enc F)
theorem plain (f : FuncId) (fn : Func) (hf : Tryd.pinned.checked.prog.funcNamed "witting/wittinglaw13.ModelUnions" = some f) (hfn : Tryd.pinned.checked.prog.funcs[f]? = some fn) :
    false = Tryd.pinned.checked.prog.looks [] ∧ ∀ (j : Nat) t, fn.params[j]? = some t → Tryd.pinned.checked.prog.wantsStandIn t = false := by
  obtain rfl : f = 5 := Option.some.inj ((show Tryd.prog.funcNamed "witting/wittinglaw13.ModelUnions" = some 5 by kernel_rfl).symm.trans hf) |>.symm
  obtain rfl : fn = Tryd.f5 := (Option.some.inj (Tryd.func5.symm.trans hfn)).symm
  refine ⟨no_looks, fun j t ht => ?_⟩
  rw [Tryd.params5] at ht
  have hm : t ∈ [25, 25, 32] := by simpa using Array.mem_of_getElem? ht
  have hall : ([25, 25, 32].all fun u => !Tryd.prog.wantsStandIn u) = true := by kernel_rfl
  exact (show Tryd.prog.wantsStandIn t = false by simpa using List.all_eq_true.1 hall t hm)
theorem card : Rows.ModelUnionsCardSaid :=
  Claim7.holds_tied_plain_at .later [] _ _ _ _ said (fun _ h => by cases h) (by kernel_rfl) (fun _ h => by cases h) modelUnions_row_tie rfl ⟨rfl, rfl⟩ (by kernel_rfl) rfl plain (by kernel_rfl)
#print axioms card
end Go.Proofs.YtofclgapgjcflaaDoor.modelUnions
