/- Layer 13: ModelParts. -/
import Derived.Test.YtofclgapgjcflaaDoorEg
import Derived.Test.YtofclgapgjcflaaDoorEc
import Derived.Test.YtofclgapgjcflaaDoorEe
namespace Go.Proofs.YtofclgapgjcflaaDoor.modelParts
open Go.ChangeShapes Go.WideShapes Go.ChangeAt Go.RowKit Go.Proofs.YtofclgapgjcflaaDoor Go.Proofs.YtofclgapgjcflaaDoor.mdl Go.Proofs.Ws
open Go.ChangeMaps (open_string shut_string)
set_option maxRecDepth 100000
set_option maxHeartbeats 16000000 in
theorem walk (a b : Mo) (v v' : Value) (w : World) (hM : MoR w w.heap.size v a) (hM2 : MoR w w.heap.size v' b) (hT : Tab w) :
    Calls Tryd.prog 10 #[v, v'] w fun e w' => e = .returned (.bool true) ∧ Below w.heap.size w w' := by
  obtain ⟨A1, c1, A2, c2, rfl, _, _⟩ := hM.ex
  obtain ⟨B1, d1, B2, d2, rfl, _, _⟩ := hM2.ex
  have HMA := Lib.hid (fun W (hb : Below w.heap.size w W) => hM.below hb hb.size)
  have HMB := Lib.hid (fun W (hb : Below w.heap.size w W) => hM2.below hb hb.size)
  have HTW := Lib.hid (fun W (hb : Below w.heap.size w W) => hT.below hb)
  have HAW : Hid (∀ W, Below w.heap.size w W → Calls Tryd.prog 11 #[] W fun e w' => e = .returned (.bool true) ∧ Below W.heap.size W w') := Lib.hid (fun W hb => awake13_any W (hT.below hb))
  have HFA : Hid (∀ W, Below w.heap.size w W → Calls Tryd.prog 12 #[.agg #[.int .i64 a.n, .slice A1 a.val.length c1, .slice A2 a.rel.length c2]] W fun e w' => e = .returned (.bool (fewM a)) ∧ Below W.heap.size W w') := Lib.hid (fun W hb => lFew_any a _ W (HMA.out W hb))
  have HFB : Hid (∀ W, Below w.heap.size w W → Calls Tryd.prog 12 #[.agg #[.int .i64 b.n, .slice B1 b.val.length d1, .slice B2 b.rel.length d2]] W fun e w' => e = .returned (.bool (fewM b)) ∧ Below W.heap.size W w') := Lib.hid (fun W hb => lFew_any b _ W (HMB.out W hb))
  obtain ⟨t1, t2, t3⟩ := two_at w #[.int .i64 a.n, .slice A1 a.val.length c1, .slice A2 a.rel.length c2] #[.int .i64 b.n, .slice B1 b.val.length d1, .slice B2 b.rel.length d2] 25 25
  have HX : Hid (MBox _ w.heap.size a.n (.slice A1 a.val.length c1) (.slice A2 a.rel.length c2)) := Lib.hid t1
  have HY : Hid (MBox _ (w.heap.size + 1) b.n (.slice B1 b.val.length d1) (.slice B2 b.rel.length d2)) := Lib.hid t2
  have HB := Lib.hid t3
  clear hM hM2 hT t1 t2 t3
  by_cases hfa : fewM a = true
  case neg =>
    have hfa2 : fewM a = false := by simpa using hfa
    rw [hfa2] at HFA
    clear hfa hfa2
    go_enter Tryd.func10, Tryd.ntmps10
    go_wp2_with fail
    generalize hW : (w.alloc (.cells #[.int .i64 a.n, .slice A1 a.val.length c1, .slice A2 a.rel.length c2] 25)).alloc (.cells #[.int .i64 b.n, .slice B1 b.val.length d1, .slice B2 b.rel.length d2] 25) = w1 at *
    clear hW
    refine (HAW.out _ HB.out).mono ?_
    rintro e w2 ⟨rfl, hb⟩
    replace HB := Lib.hid (upB HB.out (Nat.le_refl _) hb)
    replace HX := Lib.hid (upX HX.out hb)
    replace HY := Lib.hid (upX HY.out hb)
    clear hb
    have HX_0 := HX.out.c0
    have HX_1 := HX.out.c1
    have HX_2 := HX.out.c2
    have HX_l := HX.out.lt
    have HY_0 := HY.out.c0
    have HY_1 := HY.out.c1
    have HY_2 := HY.out.c2
    have HY_l := HY.out.lt
    go_wp2_with fail
    clear HX_0 HX_1 HX_2 HX_l
    clear HY_0 HY_1 HY_2 HY_l
    refine (HFA.out _ HB.out).mono ?_
    rintro e w3 ⟨rfl, hb⟩
    replace HB := Lib.hid (upB HB.out (Nat.le_refl _) hb)
    replace HX := Lib.hid (upX HX.out hb)
    replace HY := Lib.hid (upX HY.out hb)
    clear hb
    have HX_0 := HX.out.c0
    have HX_1 := HX.out.c1
    have HX_2 := HX.out.c2
    have HX_l := HX.out.lt
    have HY_0 := HY.out.c0
    have HY_1 := HY.out.c1
    have HY_2 := HY.out.c2
    have HY_l := HY.out.lt
    go_wp2_with fail
    clear HX_0 HX_1 HX_2 HX_l
    clear HY_0 HY_1 HY_2 HY_l
    refine (HAW.out _ HB.out).mono ?_
    rintro e w4 ⟨rfl, hb⟩
    replace HB := Lib.hid (upB HB.out (Nat.le_refl _) hb)
    replace HX := Lib.hid (upX HX.out hb)
    replace HY := Lib.hid (upX HY.out hb)
    clear hb
    go_wp2
    go_ret
    exact ⟨rfl, HB.out⟩
  case pos =>
    rw [hfa] at HFA
    clear hfa
    by_cases hfb : fewM b = true
    case neg =>
      have hfb2 : fewM b = false := by simpa using hfb
      rw [hfb2] at HFB
      clear hfb hfb2
      go_enter Tryd.func10, Tryd.ntmps10
      go_wp2_with fail
      generalize hW : (w.alloc (.cells #[.int .i64 a.n, .slice A1 a.val.length c1, .slice A2 a.rel.length c2] 25)).alloc (.cells #[.int .i64 b.n, .slice B1 b.val.length d1, .slice B2 b.rel.length d2] 25) = w1 at *
      clear hW
      refine (HAW.out _ HB.out).mono ?_
      rintro e w2 ⟨rfl, hb⟩
      replace HB := Lib.hid (upB HB.out (Nat.le_refl _) hb)
      replace HX := Lib.hid (upX HX.out hb)
      replace HY := Lib.hid (upX HY.out hb)
      clear hb
      have HX_0 := HX.out.c0
      have HX_1 := HX.out.c1
      have HX_2 := HX.out.c2
      have HX_l := HX.out.lt
      have HY_0 := HY.out.c0
      have HY_1 := HY.out.c1
      have HY_2 := HY.out.c2
      have HY_l := HY.out.lt
      go_wp2_with fail
      clear HX_0 HX_1 HX_2 HX_l
      clear HY_0 HY_1 HY_2 HY_l
      refine (HFA.out _ HB.out).mono ?_
      rintro e w3 ⟨rfl, hb⟩
      replace HB := Lib.hid (upB HB.out (Nat.le_refl _) hb)
      replace HX := Lib.hid (upX HX.out hb)
      replace HY := Lib.hid (upX HY.out hb)
      clear hb
      have HX_0 := HX.out.c0
      have HX_1 := HX.out.c1
      have HX_2 := HX.out.c2
      have HX_l := HX.out.lt
      have HY_0 := HY.out.c0
      have HY_1 := HY.out.c1
      have HY_2 := HY.out.c2
      have HY_l := HY.out.lt
      go_wp2_with fail
      clear HX_0 HX_1 HX_2 HX_l
      clear HY_0 HY_1 HY_2 HY_l
      refine (HFB.out _ HB.out).mono ?_
      rintro e w4 ⟨rfl, hb⟩
      replace HB := Lib.hid (upB HB.out (Nat.le_refl _) hb)
      replace HX := Lib.hid (upX HX.out hb)
      replace HY := Lib.hid (upX HY.out hb)
      clear hb
      have HX_0 := HX.out.c0
      have HX_1 := HX.out.c1
      have HX_2 := HX.out.c2
      have HX_l := HX.out.lt
      have HY_0 := HY.out.c0
      have HY_1 := HY.out.c1
      have HY_2 := HY.out.c2
      have HY_l := HY.out.lt
      go_wp2_with fail
      clear HX_0 HX_1 HX_2 HX_l
      clear HY_0 HY_1 HY_2 HY_l
      refine (HAW.out _ HB.out).mono ?_
      rintro e w5 ⟨rfl, hb⟩
      replace HB := Lib.hid (upB HB.out (Nat.le_refl _) hb)
      replace HX := Lib.hid (upX HX.out hb)
      replace HY := Lib.hid (upX HY.out hb)
      clear hb
      go_wp2
      go_ret
      exact ⟨rfl, HB.out⟩
    case pos =>
      rw [hfb] at HFB
      clear hfb
      have HUW : Hid (∀ W, Below w.heap.size w W → Calls Tryd.prog 23 #[.agg #[.int .i64 a.n, .slice A1 a.val.length c1, .slice A2 a.rel.length c2], .agg #[.int .i64 b.n, .slice B1 b.val.length d1, .slice B2 b.rel.length d2]] W fun e w' => ∃ u, e = .returned (.tuple #[u, .int .i64 (unionE a b)]) ∧ MoF w' W.heap.size u (unionM a b) ∧ Below W.heap.size W w') := Lib.hid (fun W hb => pUnion_any a b _ _ W (HMA.out W hb) (HMB.out W hb))
      by_cases he : unionE a b = 0
      case neg =>
        have hm0 : unionM a b = mo0 := by unfold unionM; rw [if_neg he]
        rw [hm0] at HUW
        have hne : (unionE a b != 0) = true := by rw [bne_iff_ne]; exact he
        generalize unionE a b = ue at *
        clear he hm0
        go_enter Tryd.func10, Tryd.ntmps10
        go_wp2_with fail
        generalize hW : (w.alloc (.cells #[.int .i64 a.n, .slice A1 a.val.length c1, .slice A2 a.rel.length c2] 25)).alloc (.cells #[.int .i64 b.n, .slice B1 b.val.length d1, .slice B2 b.rel.length d2] 25) = w1 at *
        clear hW
        refine (HAW.out _ HB.out).mono ?_
        rintro e w2 ⟨rfl, hb⟩
        replace HB := Lib.hid (upB HB.out (Nat.le_refl _) hb)
        replace HX := Lib.hid (upX HX.out hb)
        replace HY := Lib.hid (upX HY.out hb)
        clear hb
        have HX_0 := HX.out.c0
        have HX_1 := HX.out.c1
        have HX_2 := HX.out.c2
        have HX_l := HX.out.lt
        have HY_0 := HY.out.c0
        have HY_1 := HY.out.c1
        have HY_2 := HY.out.c2
        have HY_l := HY.out.lt
        go_wp2_with fail
        clear HX_0 HX_1 HX_2 HX_l
        clear HY_0 HY_1 HY_2 HY_l
        refine (HFA.out _ HB.out).mono ?_
        rintro e w3 ⟨rfl, hb⟩
        replace HB := Lib.hid (upB HB.out (Nat.le_refl _) hb)
        replace HX := Lib.hid (upX HX.out hb)
        replace HY := Lib.hid (upX HY.out hb)
        clear hb
        have HX_0 := HX.out.c0
        have HX_1 := HX.out.c1
        have HX_2 := HX.out.c2
        have HX_l := HX.out.lt
        have HY_0 := HY.out.c0
        have HY_1 := HY.out.c1
        have HY_2 := HY.out.c2
        have HY_l := HY.out.lt
        go_wp2_with fail
        clear HX_0 HX_1 HX_2 HX_l
        clear HY_0 HY_1 HY_2 HY_l
        refine (HFB.out _ HB.out).mono ?_
        rintro e w4 ⟨rfl, hb⟩
        replace HB := Lib.hid (upB HB.out (Nat.le_refl _) hb)
        replace HX := Lib.hid (upX HX.out hb)
        replace HY := Lib.hid (upX HY.out hb)
        clear hb
        have HX_0 := HX.out.c0
        have HX_1 := HX.out.c1
        have HX_2 := HX.out.c2
        have HX_l := HX.out.lt
        have HY_0 := HY.out.c0
        have HY_1 := HY.out.c1
        have HY_2 := HY.out.c2
        have HY_l := HY.out.lt
        go_wp2_with fail
        clear HX_0 HX_1 HX_2 HX_l
        clear HY_0 HY_1 HY_2 HY_l
        refine (HUW.out _ HB.out).mono ?_
        rintro e w5 ⟨u, rfl, hm, hb⟩
        replace HB := Lib.hid (upB HB.out (Nat.le_refl _) hb)
        replace HX := Lib.hid (upX HX.out hb)
        replace HY := Lib.hid (upX HY.out hb)
        clear hb
        have hm := hm.self
        obtain ⟨U1, e1, U2, e2, rfl⟩ := hm.shape (n := 0) (k := 0) (q := 0) rfl rfl rfl
        clear hm
        go_wp2
        go_ret
        exact ⟨rfl, HB.out.alloc HB.out.size _⟩
      case pos =>
        obtain ⟨h2, hum⟩ := Two.of he
        rw [he, hum] at HUW
        clear he hum
        obtain ⟨N, hN⟩ : ∃ N, N = a.n.toNat + b.n.toNat := ⟨_, rfl⟩
        have hl2 := Two.restL h2
        have hr2 := Two.restR h2
        have hbt := Two.right_bits h2
        have hna := h2.oa.num
        have hnb := h2.ob.num
        have hpa := h2.oa.pos
        have hpb := h2.ob.pos
        have hle := h2.hle
        have hUn : (uniM a b).n = (N : Int) := by rw [h2.ok.num, hN]
        have hUv : (uniM a b).val.length = a.val.length := by unfold uniM; simp
        have hUr : (uniM a b).rel.length = a.rel.length := by unfold uniM; simp
        rw [← hN] at hr2 hbt hle
        have HP1 : Hid (2 ^ a.n.toNat - 1 < 18446744073709551616) := Lib.hid (by have := Nat.pow_le_pow_right (show 0 < 2 by decide) (show a.n.toNat ≤ 64 by omega); omega)
        have HP2 : Hid (2 ^ N - 2 ^ a.n.toNat < 18446744073709551616) := Lib.hid (by have := Nat.pow_le_pow_right (show 0 < 2 by decide) hle; have := Nat.two_pow_pos a.n.toNat; omega)
        have HALa := Lib.hid (fun W => rAll_any a.n.toNat W (by omega))
        have HALn := Lib.hid (fun W => rAll_any N W hle)
        have hwk : IntKind.i64.wrap ((a.n.toNat : Int) + (b.n.toNat : Int)) = (N : Int) := by rw [IntKind.wrap_i64]; omega
        have dd0 : decide ((a.n.toNat : Int) < 1) = false := decide_eq_false (by omega)
        have dd1 : decide ((b.n.toNat : Int) < 1) = false := decide_eq_false (by omega)
        have dd2 : decide ((64 : Int) < (N : Int)) = false := decide_eq_false (by omega)
        have HU := Lib.hid hUn
        have HUV := Lib.hid hUv
        have HUR := Lib.hid hUr
        have HL2 := Lib.hid hl2
        have HR2 := Lib.hid hr2
        clear h2 hpa hpb hle hN hl2 hr2 hUn hUv hUr
        generalize hnaN : a.n.toNat = na at *
        generalize hnbN : b.n.toNat = nb at *
        clear hnaN hnbN
        generalize hAn : a.n = an at *
        generalize hBn : b.n = bn at *
        subst hna hnb
        have HNA := Lib.hid hAn
        have HNB := Lib.hid hBn
        clear hAn hBn
        generalize hle1 : 2 ^ na - 1 = left at *
        generalize hri1 : 2 ^ N - 2 ^ na = right at *
        generalize hal1 : 2 ^ N - 1 = alln at *
        clear hle1 hri1 hal1
        go_enter Tryd.func10, Tryd.ntmps10
        go_wp2_with fail
        generalize hW : (w.alloc (.cells #[.int .i64 (na : Int), .slice A1 a.val.length c1, .slice A2 a.rel.length c2] 25)).alloc (.cells #[.int .i64 (nb : Int), .slice B1 b.val.length d1, .slice B2 b.rel.length d2] 25) = w1 at *
        clear hW
        refine (HAW.out _ HB.out).mono ?_
        rintro e w2 ⟨rfl, hb⟩
        replace HB := Lib.hid (upB HB.out (Nat.le_refl _) hb)
        replace HX := Lib.hid (upX HX.out hb)
        replace HY := Lib.hid (upX HY.out hb)
        clear hb
        have HX_0 := HX.out.c0
        have HX_1 := HX.out.c1
        have HX_2 := HX.out.c2
        have HX_l := HX.out.lt
        have HY_0 := HY.out.c0
        have HY_1 := HY.out.c1
        have HY_2 := HY.out.c2
        have HY_l := HY.out.lt
        go_wp2_with fail
        clear HX_0 HX_1 HX_2 HX_l
        clear HY_0 HY_1 HY_2 HY_l
        refine (HFA.out _ HB.out).mono ?_
        rintro e w3 ⟨rfl, hb⟩
        replace HB := Lib.hid (upB HB.out (Nat.le_refl _) hb)
        replace HX := Lib.hid (upX HX.out hb)
        replace HY := Lib.hid (upX HY.out hb)
        clear hb
        have HX_0 := HX.out.c0
        have HX_1 := HX.out.c1
        have HX_2 := HX.out.c2
        have HX_l := HX.out.lt
        have HY_0 := HY.out.c0
        have HY_1 := HY.out.c1
        have HY_2 := HY.out.c2
        have HY_l := HY.out.lt
        go_wp2_with fail
        clear HX_0 HX_1 HX_2 HX_l
        clear HY_0 HY_1 HY_2 HY_l
        refine (HFB.out _ HB.out).mono ?_
        rintro e w4 ⟨rfl, hb⟩
        replace HB := Lib.hid (upB HB.out (Nat.le_refl _) hb)
        replace HX := Lib.hid (upX HX.out hb)
        replace HY := Lib.hid (upX HY.out hb)
        clear hb
        have HX_0 := HX.out.c0
        have HX_1 := HX.out.c1
        have HX_2 := HX.out.c2
        have HX_l := HX.out.lt
        have HY_0 := HY.out.c0
        have HY_1 := HY.out.c1
        have HY_2 := HY.out.c2
        have HY_l := HY.out.lt
        go_wp2_with fail
        clear HX_0 HX_1 HX_2 HX_l
        clear HY_0 HY_1 HY_2 HY_l
        refine (HUW.out _ HB.out).mono ?_
        rintro e w5 ⟨u, rfl, hm, hb⟩
        replace HB := Lib.hid (upB HB.out (Nat.le_refl _) hb)
        replace HX := Lib.hid (upX HX.out hb)
        replace HY := Lib.hid (upX HY.out hb)
        clear hb
        have hm := hm.self
        obtain ⟨U1, e1, U2, e2, rfl⟩ := hm.shape (n := (N : Int)) (k := a.val.length) (q := a.rel.length) HU.out HUV.out HUR.out
        have HMU := Lib.hid hm
        clear hm
        have HX_0 := HX.out.c0
        have HX_1 := HX.out.c1
        have HX_2 := HX.out.c2
        have HX_l := HX.out.lt
        have HY_0 := HY.out.c0
        have HY_1 := HY.out.c1
        have HY_2 := HY.out.c2
        have HY_l := HY.out.lt
        go_wp2_with fail
        clear HX_0 HX_1 HX_2 HX_l
        clear HY_0 HY_1 HY_2 HY_l
        have hb : Below w5.heap.size w5 (w5.alloc (.cells #[.int .i64 ((N : Int)), .slice U1 a.val.length e1, .slice U2 a.rel.length e2] 25)) := (Below.refl _ _).alloc (Nat.le_refl _) _
        have HXU := Lib.hid (MBox.made w5 ((N : Int)) (.slice U1 a.val.length e1) (.slice U2 a.rel.length e2))
        generalize hW : w5.alloc (.cells #[.int .i64 ((N : Int)), .slice U1 a.val.length e1, .slice U2 a.rel.length e2] 25) = w6 at *
        clear hW
        replace HB := Lib.hid (upB HB.out (Nat.le_refl _) hb)
        replace HX := Lib.hid (upX HX.out hb)
        replace HY := Lib.hid (upX HY.out hb)
        replace HMU := Lib.hid (upM HMU.out hb)
        clear hb
        generalize w5.heap.size = bHXU at *
        refine (HALa.out _).mono ?_
        rintro e w56 ⟨rfl, rfl⟩
        have HXU_0 := HXU.out.c0
        have HXU_1 := HXU.out.c1
        have HXU_2 := HXU.out.c2
        have HXU_l := HXU.out.lt
        go_wp2_with fail
        clear HXU_0 HXU_1 HXU_2 HXU_l
        refine (HALn.out _).mono ?_
        rintro e w56 ⟨rfl, rfl⟩
        have HXU_0 := HXU.out.c0
        have HXU_1 := HXU.out.c1
        have HXU_2 := HXU.out.c2
        have HXU_l := HXU.out.lt
        go_wp2_with fail
        clear HXU_0 HXU_1 HXU_2 HXU_l
        refine (pRestrict_any (uniM a b) _ left w6 HMU.out HP1.out (HTW.out _ HB.out)).mono ?_
        rintro e w7 ⟨vX, LX, lcX, rfl, hm, hl, hb⟩
        replace HB := Lib.hid (upB HB.out (Nat.le_refl _) hb)
        replace HX := Lib.hid (upX HX.out hb)
        replace HY := Lib.hid (upX HY.out hb)
        replace HMU := Lib.hid (upM HMU.out hb)
        replace HXU := Lib.hid (upX HXU.out hb)
        clear hb
        have hm := hm.self
        rw [HL2.out.2.1] at hm
        rw [HL2.out.1]
        obtain ⟨X1, Xc1, X2, Xc2, rfl⟩ := hm.shape (n := (na : Int)) (k := a.val.length) (q := a.rel.length) HNA.out rfl rfl
        have HMX := Lib.hid hm
        clear hm hl
        have HXU_0 := HXU.out.c0
        have HXU_1 := HXU.out.c1
        have HXU_2 := HXU.out.c2
        have HXU_l := HXU.out.lt
        go_wp2_with fail
        clear HXU_0 HXU_1 HXU_2 HXU_l
        have hb : Below w7.heap.size w7 (w7.alloc (.cells #[.int .i64 ((na : Int)), .slice X1 a.val.length Xc1, .slice X2 a.rel.length Xc2] 25)) := (Below.refl _ _).alloc (Nat.le_refl _) _
        have HXX := Lib.hid (MBox.made w7 ((na : Int)) (.slice X1 a.val.length Xc1) (.slice X2 a.rel.length Xc2))
        generalize hW : w7.alloc (.cells #[.int .i64 ((na : Int)), .slice X1 a.val.length Xc1, .slice X2 a.rel.length Xc2] 25) = w8 at *
        clear hW
        replace HB := Lib.hid (upB HB.out (Nat.le_refl _) hb)
        replace HX := Lib.hid (upX HX.out hb)
        replace HY := Lib.hid (upX HY.out hb)
        replace HMU := Lib.hid (upM HMU.out hb)
        replace HXU := Lib.hid (upX HXU.out hb)
        replace HMX := Lib.hid (upM HMX.out hb)
        clear hb
        generalize w7.heap.size = bHXX at *
        refine (pRestrict_any (uniM a b) _ right w8 HMU.out HP2.out (HTW.out _ HB.out)).mono ?_
        rintro e w9 ⟨vY, LY, lcY, rfl, hm, hl, hb⟩
        replace HB := Lib.hid (upB HB.out (Nat.le_refl _) hb)
        replace HX := Lib.hid (upX HX.out hb)
        replace HY := Lib.hid (upX HY.out hb)
        replace HMU := Lib.hid (upM HMU.out hb)
        replace HXU := Lib.hid (upX HXU.out hb)
        replace HMX := Lib.hid (upM HMX.out hb)
        replace HXX := Lib.hid (upX HXX.out hb)
        clear hb
        have hm := hm.self
        rw [HR2.out.2.1] at hm
        rw [HR2.out.1]
        obtain ⟨Y1, Yc1, Y2, Yc2, rfl⟩ := hm.shape (n := (nb : Int)) (k := b.val.length) (q := b.rel.length) HNB.out rfl rfl
        have HMY := Lib.hid hm
        clear hm hl
        have HXU_0 := HXU.out.c0
        have HXU_1 := HXU.out.c1
        have HXU_2 := HXU.out.c2
        have HXU_l := HXU.out.lt
        go_wp2_with fail
        clear HXU_0 HXU_1 HXU_2 HXU_l
        have hb : Below w9.heap.size w9 (w9.alloc (.cells #[.int .i64 ((nb : Int)), .slice Y1 b.val.length Yc1, .slice Y2 b.rel.length Yc2] 25)) := (Below.refl _ _).alloc (Nat.le_refl _) _
        have HXY := Lib.hid (MBox.made w9 ((nb : Int)) (.slice Y1 b.val.length Yc1) (.slice Y2 b.rel.length Yc2))
        generalize hW : w9.alloc (.cells #[.int .i64 ((nb : Int)), .slice Y1 b.val.length Yc1, .slice Y2 b.rel.length Yc2] 25) = w10 at *
        clear hW
        replace HB := Lib.hid (upB HB.out (Nat.le_refl _) hb)
        replace HX := Lib.hid (upX HX.out hb)
        replace HY := Lib.hid (upX HY.out hb)
        replace HMU := Lib.hid (upM HMU.out hb)
        replace HXU := Lib.hid (upX HXU.out hb)
        replace HMX := Lib.hid (upM HMX.out hb)
        replace HXX := Lib.hid (upX HXX.out hb)
        replace HMY := Lib.hid (upM HMY.out hb)
        clear hb
        generalize w9.heap.size = bHXY at *
        refine (pGenerated_any (uniM a b) _ left w10 HMU.out HP1.out (HTW.out _ HB.out)).mono ?_
        rintro e w11 ⟨rfl, hb⟩
        replace HB := Lib.hid (upB HB.out (Nat.le_refl _) hb)
        replace HX := Lib.hid (upX HX.out hb)
        replace HY := Lib.hid (upX HY.out hb)
        replace HMU := Lib.hid (upM HMU.out hb)
        replace HXU := Lib.hid (upX HXU.out hb)
        replace HMX := Lib.hid (upM HMX.out hb)
        replace HXX := Lib.hid (upX HXX.out hb)
        replace HMY := Lib.hid (upM HMY.out hb)
        replace HXY := Lib.hid (upX HXY.out hb)
        clear hb
        rw [HL2.out.2.2.1, HL2.out.2.2.2]
        have HXU_0 := HXU.out.c0
        have HXU_1 := HXU.out.c1
        have HXU_2 := HXU.out.c2
        have HXU_l := HXU.out.lt
        go_wp2_with fail
        clear HXU_0 HXU_1 HXU_2 HXU_l
        refine (pGenerated_any (uniM a b) _ right w11 HMU.out HP2.out (HTW.out _ HB.out)).mono ?_
        rintro e w12 ⟨rfl, hb⟩
        replace HB := Lib.hid (upB HB.out (Nat.le_refl _) hb)
        replace HX := Lib.hid (upX HX.out hb)
        replace HY := Lib.hid (upX HY.out hb)
        replace HMU := Lib.hid (upM HMU.out hb)
        replace HXU := Lib.hid (upX HXU.out hb)
        replace HMX := Lib.hid (upM HMX.out hb)
        replace HXX := Lib.hid (upX HXX.out hb)
        replace HMY := Lib.hid (upM HMY.out hb)
        replace HXY := Lib.hid (upX HXY.out hb)
        clear hb
        rw [HR2.out.2.2.1, HR2.out.2.2.2]
        have HX_0 := HX.out.c0
        have HX_1 := HX.out.c1
        have HX_2 := HX.out.c2
        have HX_l := HX.out.lt
        have HXX_0 := HXX.out.c0
        have HXX_1 := HXX.out.c1
        have HXX_2 := HXX.out.c2
        have HXX_l := HXX.out.lt
        go_wp2_with fail
        clear HX_0 HX_1 HX_2 HX_l
        clear HXX_0 HXX_1 HXX_2 HXX_l
        refine (rSame_any a a _ _ w12 HMX.out (HMA.out _ HB.out)).mono ?_
        rintro e w13 ⟨rfl, hb⟩
        replace HB := Lib.hid (upB HB.out (Nat.le_refl _) hb)
        replace HX := Lib.hid (upX HX.out hb)
        replace HY := Lib.hid (upX HY.out hb)
        replace HMU := Lib.hid (upM HMU.out hb)
        replace HXU := Lib.hid (upX HXU.out hb)
        replace HMX := Lib.hid (upM HMX.out hb)
        replace HXX := Lib.hid (upX HXX.out hb)
        replace HMY := Lib.hid (upM HMY.out hb)
        replace HXY := Lib.hid (upX HXY.out hb)
        clear hb
        rw [show decide (a = a) = true from decide_eq_true rfl]
        have HY_0 := HY.out.c0
        have HY_1 := HY.out.c1
        have HY_2 := HY.out.c2
        have HY_l := HY.out.lt
        have HXY_0 := HXY.out.c0
        have HXY_1 := HXY.out.c1
        have HXY_2 := HXY.out.c2
        have HXY_l := HXY.out.lt
        go_wp2_with fail
        clear HY_0 HY_1 HY_2 HY_l
        clear HXY_0 HXY_1 HXY_2 HXY_l
        refine (rSame_any b b _ _ w13 HMY.out (HMB.out _ HB.out)).mono ?_
        rintro e w14 ⟨rfl, hb⟩
        replace HB := Lib.hid (upB HB.out (Nat.le_refl _) hb)
        replace HX := Lib.hid (upX HX.out hb)
        replace HY := Lib.hid (upX HY.out hb)
        replace HMU := Lib.hid (upM HMU.out hb)
        replace HXU := Lib.hid (upX HXU.out hb)
        replace HMX := Lib.hid (upM HMX.out hb)
        replace HXX := Lib.hid (upX HXX.out hb)
        replace HMY := Lib.hid (upM HMY.out hb)
        replace HXY := Lib.hid (upX HXY.out hb)
        clear hb
        rw [show decide (b = b) = true from decide_eq_true rfl]
        go_wp2
        go_ret
        exact ⟨rfl, HB.out⟩
set_option maxRecDepth 100000 in
theorem contract (H : Type) (enc : TypeId × Value → H) (W : World) (base : Nat) (args : Array Value) (ds gs : List (DataW H)) (before : List MemPlace)
    (hval : ∀ (j : Nat) t v, Tryd.f10.params[j]? = some t → args[j]? = some v → Value.okWide Tryd.prog W .any base t v)
    (hW : DataW.Whole enc Tryd.prog Tryd.f10.params.toList Rows.modelPartsSpec.vars false W args.toList ds gs before) (hE : Tab W) :
    Calls Tryd.prog 10 args W fun e W' => ∃ v, e = .returned v ∧ Rows.modelPartsSpec.post enc Tryd.prog Tryd.f10 false true false false W args v W' := by
  have hW' := hW
  obtain ⟨p, q, hA0, hV, rfl, hfz, hnd⟩ := hW
  have hA : DataW.TrodAll enc Tryd.prog W 0 (fun _ => true) true Tryd.f10.params.toList args.toList ds p := hA0
  rw [Tryd.params10] at hA hval
  obtain ⟨v0, vs0, d0, ds0, p0, q0, hargs, rfl, rfl, h0, r0⟩ := trodAll_cons hA
  obtain ⟨v1, vs1, d1, ds1, p1, q1, rfl, rfl, rfl, h1, r1⟩ := trodAll_cons r0
  obtain ⟨rfl, rfl, rfl⟩ := trodAll_nil r1
  obtain rfl : args = #[v0, v1] := by cases args; simp_all
  obtain ⟨rfl, rfl⟩ := trodVars_none hV
  obtain ⟨m0, w0⟩ := open_mo (hval 0 25 v0 rfl rfl) h0
  have k0 := h0
  have lt0 : ∀ x ∈ p0, x.block < W.heap.size := by obtain ⟨m, hm⟩ := k0; exact DataW.trod_lt m _ _ _ hm
  obtain ⟨m1, w1⟩ := open_mo (hval 1 25 v1 rfl rfl) h1
  have k1 := h1
  have lt1 : ∀ x ∈ p1, x.block < W.heap.size := by obtain ⟨m, hm⟩ := k1; exact DataW.trod_lt m _ _ _ hm
  clear hA0
  have hwalk := walk m0 m1 _ _ W w0 w1 hE
  refine hwalk.mono fun e W' ⟨he, hg⟩ => ?_
  subst he
  exact ⟨_, rfl, _, _, _, [], _, [], hW', trodAll_mk1 (shut_bool Tryd.underlying4 _), (trodAll_cons_mk (Below.trod laidOut (by kernel_rfl) (of_decide_eq_true (by kernel_rfl)) k0 hg lt0) (trodAll_cons_mk (Below.trod laidOut (by kernel_rfl) (of_decide_eq_true (by kernel_rfl)) k1 hg lt1) trodAll_mk0)), rfl, hg.frame _, fun h => by cases h⟩
theorem reads (os : Os) {H : Type} (enc : TypeId × Value → H) : ∃ places, DataW.whole enc Tryd.prog ((laidW os).forCall (fun _ _ => 0) ⟨#[], #[.agg #[.int .i64 0, .slice none 0 0, .slice none 0 0], .agg #[.int .i64 0, .slice none 0 0, .slice none 0 0]], []⟩).memory Tryd.f10.params.toList Rows.modelPartsSpec.vars false #[(.agg #[.int .i64 0, .slice none 0 0, .slice none 0 0] : Value), (.agg #[.int .i64 0, .slice none 0 0, .slice none 0 0] : Value)].toList 8 = some ([.agg [.lit (.int .i64 0), .nil, .nil], .agg [.lit (.int .i64 0), .nil, .nil]], [], places) :=
  ⟨[], by kernel_rfl⟩
set_option maxRecDepth 100000 in
theorem lifted (os : Os) (started : os.Started) (H : Type) (enc : TypeId × Value → H) (F : Stop.Interp) :
    ReturnsInHanded {} Tryd.checked os 10 .any ((OpenSpec.ofChange Rows.modelPartsSpec).preRow enc Tryd.prog Tryd.f10 Rows.modelPartsRow.domain false Rows.modelPartsRow.laid) (((OpenSpec.ofChange Rows.modelPartsSpec).at F).post enc Tryd.prog Tryd.f10 false true false false) := by
  obtain ⟨places, hx⟩ := reads os enc
  refine returnsInHanded_of_row (C := Tryd.checked) (s := OpenSpec.ofChange Rows.modelPartsSpec) own started (by kernel_rfl) Tryd.func10
    (witness_row_atRef (enc := enc) (C := Tryd.checked) false (laidW os) #[.agg #[.int .i64 0, .slice none 0 0, .slice none 0 0], .agg #[.int .i64 0, .slice none 0 0, .slice none 0 0]] (laidW_os os) (vars_ok os _) (heap_ok os _) (by kernel_rfl)
      (OpenSpec.preRow_of_cond 8 hx (by kernel_rfl) (fun k hk => by cases hk) (by kernel_rfl) (laid_met os _))) ?_
  intro W base args ds gs before hval hW _ _ _ hL hsh _
  exact contract H enc W base args ds gs before hval hW (env_of hL)
theorem said : Rows.ModelPartsSaid :=
  OpenClaim.holds_of_cond 10 Tryd.f10 rfl rfl rfl rfl rfl rfl rfl ⟨rfl, rfl, rfl, rfl, rfl⟩ rfl rfl rfl rfl rfl (by kernel_rfl) Tryd.func10 (by kernel_rfl)
    (of_decide_eq_true (by kernel_rfl)) (by unfold Func.isWrapper; first | (rw [if_pos (by decide +kernel)]; kernel_rfl) | (rw [if_neg (by decide +kernel)]; exact ⟨rfl, rfl⟩))
    (fun os started H enc _ F => by rw [OpenClaim.pre_eq_preRow]; exact lifted os started H enc F)
theorem plain (f : FuncId) (fn : Func) (hf : Tryd.pinned.checked.prog.funcNamed "witting/wittinglaw13.ModelParts" = some f) (hfn : Tryd.pinned.checked.prog.funcs[f]? = some fn) :
    false = Tryd.pinned.checked.prog.looks [] ∧ ∀ (j : Nat) t, fn.params[j]? = some t → Tryd.pinned.checked.prog.wantsStandIn t = false := by
  obtain rfl : f = 10 := Option.some.inj ((show Tryd.prog.funcNamed "witting/wittinglaw13.ModelParts" = some 10 by kernel_rfl).symm.trans hf) |>.symm
  obtain rfl : fn = Tryd.f10 := (Option.some.inj (Tryd.func10.symm.trans hfn)).symm
  refine ⟨no_looks, fun j t ht => ?_⟩
  rw [Tryd.params10] at ht
  have hm : t ∈ [25, 25] := by simpa using Array.mem_of_getElem? ht
  have hall : ([25, 25].all fun u => !Tryd.prog.wantsStandIn u) = true := by kernel_rfl
  exact (show Tryd.prog.wantsStandIn t = false by simpa using List.all_eq_true.1 hall t hm)
theorem card : Rows.ModelPartsCardSaid :=
  Claim7.holds_tied_plain_at .later [] _ _ _ _ said (fun _ h => by cases h) (by kernel_rfl) (fun _ h => by cases h) modelParts_row_tie rfl ⟨rfl, rfl⟩ (by kernel_rfl) rfl plain (by kernel_rfl)
#print axioms card
end Go.Proofs.YtofclgapgjcflaaDoor.modelParts
