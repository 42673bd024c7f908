/- Layer 6: texts joined: Yj Yk. -/
import Derived.Test.YthhkeobjjeldhaaGreatDoorJu
/- Layer 6: the rules of the reference's parser with choices. -/
namespace Go.Proofs.YthhkeobjjeldhaaGreatDoor
open Go.RowKit Go.Proofs.Ws Go.Maps
set_option maxRecDepth 100000 in
set_option maxHeartbeats 1000000 in
theorem yImplies_any {K : RK} (hE : RE K) {T I : RunR} (hT : CtY K 55 T) (hI : CtY K 35 I) :
    CtY K 35 (fun s => rbind (T s) fun x s => if takesR K.E ⟨#[45, 62]⟩ s = true then rbind (I s.adv) fun y s => nodeR ⟨7, 0, 0, 0, x, y⟩ s else some (x, s)) := by
  intro s s' v w h hS
  obtain ⟨x, s1, h1, h⟩ := rbind_some h
  have HT := Lib.hid (hT _ _ _ _ h1 hS)
  have HC := Lib.hid (fun W (hW : RP K W s1) => yTakes_any hE ⟨#[45, 62]⟩ (by decide) s1 W hW)
  cases hc : takesR K.E ⟨#[45, 62]⟩ s1 with
  | true =>
    rw [if_pos hc] at h
    rw [hc, if_pos rfl] at HC
    obtain ⟨y, sy, hy, h⟩ := rbind_some h
    have Hy := Lib.hid hy
    have HZ := Lib.hid h
    clear h h1 hy hc hS
    go_enter Tryz.func35, Tryz.ntmps35
    go_wp2_with fail
    refine (HT.out).mono ?_
    rintro e w1 ⟨rfl, hS1⟩
    have HS1 := Lib.hid hS1
    clear hS1
    go_wp2_with fail
    refine (HC.out _ (HS1.out)).mono ?_
    rintro e w2 ⟨rfl, hS2⟩
    have HS2 := Lib.hid hS2
    clear hS2
    go_wp2_with fail
    refine (hI _ _ _ _ Hy.out (HS2.out)).mono ?_
    rintro e w3 ⟨rfl, hS3⟩
    have HS3 := Lib.hid hS3
    clear hS3
    go_wp2_with fail
    refine (yNode_agg 7 0 0 0 (x : Int) (y : Int) HZ.out (HS3.out)).mono ?_
    rintro e w4 ⟨rfl, hS4⟩
    have HS4 := Lib.hid hS4
    clear hS4
    go_wp2
    go_ret
    exact ⟨rfl, HS4.out⟩
  | false =>
    rw [if_neg (by rw [hc]; decide)] at h
    rw [hc, if_neg (by decide)] at HC
    injection h with h
    injection h with h2 h3
    subst h2
    subst h3
    clear h1 hc hS
    go_enter Tryz.func35, Tryz.ntmps35
    go_wp2_with fail
    refine (HT.out).mono ?_
    rintro e w1 ⟨rfl, hS1⟩
    have HS1 := Lib.hid hS1
    clear hS1
    go_wp2_with fail
    refine (HC.out _ (HS1.out)).mono ?_
    rintro e w2 ⟨rfl, hS2⟩
    have HS2 := Lib.hid hS2
    clear hS2
    go_wp2
    go_ret
    exact ⟨rfl, HS2.out⟩
set_option maxRecDepth 100000 in
set_option maxHeartbeats 1000000 in
theorem yTime_any {K : RK} (hE : RE K) {O I : RunR} (hO : CtY K 64 O) (hI : CtY K 55 I) :
    CtY K 55 (fun s => rbind (O s) fun x s => if takesR K.E ⟨#[117, 110, 116, 105, 108]⟩ s = true then rbind (I s.adv) fun y s => nodeR ⟨19, 0, 0, 0, x, y⟩ s
      else if takesR K.E ⟨#[115, 105, 110, 99, 101]⟩ s = true then rbind (I s.adv) fun y s => nodeR ⟨21, 0, 0, 0, x, y⟩ s else some (x, s)) := by
  intro s s' v w h hS
  obtain ⟨x, s1, h1, h⟩ := rbind_some h
  have HT := Lib.hid (hO _ _ _ _ h1 hS)
  have HC := Lib.hid (fun W (hW : RP K W s1) => yTakes_any hE ⟨#[117, 110, 116, 105, 108]⟩ (by decide) s1 W hW)
  have HC2 := Lib.hid (fun W (hW : RP K W s1) => yTakes_any hE ⟨#[115, 105, 110, 99, 101]⟩ (by decide) s1 W hW)
  cases hc : takesR K.E ⟨#[117, 110, 116, 105, 108]⟩ s1 with
  | true =>
    rw [if_pos hc] at h
    rw [hc, if_pos rfl] at HC
    obtain ⟨y, sy, hy, h⟩ := rbind_some h
    have Hy := Lib.hid hy
    have HZ := Lib.hid h
    clear h h1 hy hc hS HC2
    go_enter Tryz.func55, Tryz.ntmps55
    go_wp2_with fail
    refine (HT.out).mono ?_
    rintro e w1 ⟨rfl, hS1⟩
    have HS1 := Lib.hid hS1
    clear hS1
    go_wp2_with fail
    refine (HC.out _ (HS1.out)).mono ?_
    rintro e w2 ⟨rfl, hS2⟩
    have HS2 := Lib.hid hS2
    clear hS2
    go_wp2_with fail
    refine (hI _ _ _ _ Hy.out (HS2.out)).mono ?_
    rintro e w3 ⟨rfl, hS3⟩
    have HS3 := Lib.hid hS3
    clear hS3
    go_wp2_with fail
    refine (yNode_agg 19 0 0 0 (x : Int) (y : Int) HZ.out (HS3.out)).mono ?_
    rintro e w4 ⟨rfl, hS4⟩
    have HS4 := Lib.hid hS4
    clear hS4
    go_wp2
    go_ret
    exact ⟨rfl, HS4.out⟩
  | false =>
    rw [if_neg (by rw [hc]; decide)] at h
    rw [hc, if_neg (by decide)] at HC
    cases hc2 : takesR K.E ⟨#[115, 105, 110, 99, 101]⟩ s1 with
    | true =>
      rw [if_pos hc2] at h
      rw [hc2, if_pos rfl] at HC2
      obtain ⟨y, sy, hy, h⟩ := rbind_some h
      have Hy := Lib.hid hy
      have HZ := Lib.hid h
      clear h h1 hy hc hS hc2
      go_enter Tryz.func55, Tryz.ntmps55
      go_wp2_with fail
      refine (HT.out).mono ?_
      rintro e w1 ⟨rfl, hS1⟩
      have HS1 := Lib.hid hS1
      clear hS1
      go_wp2_with fail
      refine (HC.out _ (HS1.out)).mono ?_
      rintro e w2 ⟨rfl, hS2⟩
      have HS2 := Lib.hid hS2
      clear hS2
      go_wp2_with fail
      refine (HC2.out _ (HS2.out)).mono ?_
      rintro e w3 ⟨rfl, hS3⟩
      have HS3 := Lib.hid hS3
      clear hS3
      go_wp2_with fail
      refine (hI _ _ _ _ Hy.out (HS3.out)).mono ?_
      rintro e w4 ⟨rfl, hS4⟩
      have HS4 := Lib.hid hS4
      clear hS4
      go_wp2_with fail
      refine (yNode_agg 21 0 0 0 (x : Int) (y : Int) HZ.out (HS4.out)).mono ?_
      rintro e w5 ⟨rfl, hS5⟩
      have HS5 := Lib.hid hS5
      clear hS5
      go_wp2
      go_ret
      exact ⟨rfl, HS5.out⟩
    | false =>
      rw [if_neg (by rw [hc2]; decide)] at h
      rw [hc2, if_neg (by decide)] at HC2
      injection h with h
      injection h with h2 h3
      subst h2
      subst h3
      clear h1 hc hS hc2
      go_enter Tryz.func55, Tryz.ntmps55
      go_wp2_with fail
      refine (HT.out).mono ?_
      rintro e w1 ⟨rfl, hS1⟩
      have HS1 := Lib.hid hS1
      clear hS1
      go_wp2_with fail
      refine (HC.out _ (HS1.out)).mono ?_
      rintro e w2 ⟨rfl, hS2⟩
      have HS2 := Lib.hid hS2
      clear hS2
      go_wp2_with fail
      refine (HC2.out _ (HS2.out)).mono ?_
      rintro e w3 ⟨rfl, hS3⟩
      have HS3 := Lib.hid hS3
      clear hS3
      go_wp2
      go_ret
      exact ⟨rfl, HS3.out⟩
set_option maxRecDepth 100000 in
set_option maxHeartbeats 4000000 in
theorem yPrefix_any {K : RK} (hE : RE K) {R : RunR} (hR : CtY K 74 R) {F : RunR} (hF : CtY K 18 F) : CtY K 74 (preR K.E R F) := by
  intro s s' v w h hS
  have HL := Lib.hid (yLook_any hE s w hS)
  have hwl := hE.wl
  have k7 := hS.cells.2.2.2
  unfold preR at h
  by_cases he : s.e = 0
  · rw [if_neg (by intro h; exact h he)] at h
    rw [he] at k7
    have HA := Lib.hid (fun W (hW : RP K W s) => hW.adv)
    have HC := Lib.hid (fun W (hW : RP K W s) => hW.cells.2.1)
    have HF4 := Lib.hid (fun W (hW : RP K W s) => hW.free 4)
    by_cases c1 : lookR K.E s = ⟨#[126]⟩
    · rw [if_pos c1] at h
      have hlt := look_lt c1 (by decide)
      obtain ⟨hw1, hw2⟩ := adv_wrap (m := s.next) (by omega)
      rw [c1] at HL
      unfold plainR at h
      obtain ⟨x, sx, hx, h⟩ := rbind_some h
      have Hx := Lib.hid hx
      have HZ := Lib.hid h
      clear hx
      clear h hS hwl hlt he c1
      generalize (s.next : Int) = m at *
      go_enter Tryz.func74, Tryz.ntmps74
      go_wp2_with fail
      refine HL.out.mono ?_
      rintro e w1 ⟨rfl, hS1⟩
      have k4 := HC.out w1 hS1
      have f4 := HF4.out w1 hS1
      have HS1 := Lib.hid (HA.out w1 hS1)
      clear hS1
      go_wp2_with fail
      refine (hR _ _ _ _ Hx.out (HS1.out)).mono ?_
      rintro e w2 ⟨rfl, hS2⟩
      have HS2 := Lib.hid hS2
      clear hS2
      go_wp2_with fail
      refine (yNode_agg 4 0 0 0 (x : Int) 0 HZ.out (HS2.out)).mono ?_
      rintro e w3 ⟨rfl, hS3⟩
      have HS3 := Lib.hid hS3
      clear hS3
      go_wp2
      go_ret
      exact ⟨rfl, HS3.out⟩
    rw [if_neg c1] at h
    by_cases c2 : lookR K.E s = ⟨#[110, 101, 120, 116]⟩
    · rw [if_pos c2] at h
      have hlt := look_lt c2 (by decide)
      obtain ⟨hw1, hw2⟩ := adv_wrap (m := s.next) (by omega)
      rw [c2] at HL
      unfold plainR at h
      obtain ⟨x, sx, hx, h⟩ := rbind_some h
      have Hx := Lib.hid hx
      have HZ := Lib.hid h
      clear hx
      clear h hS hwl hlt he c1 c2
      generalize (s.next : Int) = m at *
      go_enter Tryz.func74, Tryz.ntmps74
      go_wp2_with fail
      refine HL.out.mono ?_
      rintro e w1 ⟨rfl, hS1⟩
      have k4 := HC.out w1 hS1
      have f4 := HF4.out w1 hS1
      have HS1 := Lib.hid (HA.out w1 hS1)
      clear hS1
      go_wp2_with fail
      refine (hR _ _ _ _ Hx.out (HS1.out)).mono ?_
      rintro e w2 ⟨rfl, hS2⟩
      have HS2 := Lib.hid hS2
      clear hS2
      go_wp2_with fail
      refine (yNode_agg 18 0 0 0 (x : Int) 0 HZ.out (HS2.out)).mono ?_
      rintro e w3 ⟨rfl, hS3⟩
      have HS3 := Lib.hid hS3
      clear hS3
      go_wp2
      go_ret
      exact ⟨rfl, HS3.out⟩
    rw [if_neg c2] at h
    by_cases c3 : lookR K.E s = ⟨#[112, 114, 101, 118]⟩
    · rw [if_pos c3] at h
      have hlt := look_lt c3 (by decide)
      obtain ⟨hw1, hw2⟩ := adv_wrap (m := s.next) (by omega)
      rw [c3] at HL
      unfold plainR at h
      obtain ⟨x, sx, hx, h⟩ := rbind_some h
      have Hx := Lib.hid hx
      have HZ := Lib.hid h
      clear hx
      clear h hS hwl hlt he c1 c2 c3
      generalize (s.next : Int) = m at *
      go_enter Tryz.func74, Tryz.ntmps74
      go_wp2_with fail
      refine HL.out.mono ?_
      rintro e w1 ⟨rfl, hS1⟩
      have k4 := HC.out w1 hS1
      have f4 := HF4.out w1 hS1
      have HS1 := Lib.hid (HA.out w1 hS1)
      clear hS1
      go_wp2_with fail
      refine (hR _ _ _ _ Hx.out (HS1.out)).mono ?_
      rintro e w2 ⟨rfl, hS2⟩
      have HS2 := Lib.hid hS2
      clear hS2
      go_wp2_with fail
      refine (yNode_agg 20 0 0 0 (x : Int) 0 HZ.out (HS2.out)).mono ?_
      rintro e w3 ⟨rfl, hS3⟩
      have HS3 := Lib.hid hS3
      clear hS3
      go_wp2
      go_ret
      exact ⟨rfl, HS3.out⟩
    rw [if_neg c3] at h
    by_cases c4 : lookR K.E s = ⟨#[75]⟩
    · rw [if_pos c4] at h
      have hlt := look_lt c4 (by decide)
      obtain ⟨hw1, hw2⟩ := adv_wrap (m := s.next) (by omega)
      rw [c4] at HL
      have HM := Lib.hid (fun W (hW : RP K W s.adv) => yModal_K hE hR h hW)
      clear h hS hwl hlt he c1 c2 c3 c4
      generalize (s.next : Int) = m at *
      go_enter Tryz.func74, Tryz.ntmps74
      go_wp2_with fail
      refine HL.out.mono ?_
      rintro e w1 ⟨rfl, hS1⟩
      have k4 := HC.out w1 hS1
      have f4 := HF4.out w1 hS1
      have HS1 := Lib.hid (HA.out w1 hS1)
      clear hS1
      go_wp2_with fail
      refine (HM.out _ (HS1.out)).mono ?_
      rintro e w2 ⟨rfl, hS2⟩
      have HS2 := Lib.hid hS2
      clear hS2
      go_wp2
      go_ret
      exact ⟨rfl, HS2.out⟩
    rw [if_neg c4] at h
    by_cases c5 : lookR K.E s = ⟨#[77]⟩
    · rw [if_pos c5] at h
      have hlt := look_lt c5 (by decide)
      obtain ⟨hw1, hw2⟩ := adv_wrap (m := s.next) (by omega)
      rw [c5] at HL
      have HM := Lib.hid (fun W (hW : RP K W s.adv) => yModal_M hE hR h hW)
      clear h hS hwl hlt he c1 c2 c3 c4 c5
      generalize (s.next : Int) = m at *
      go_enter Tryz.func74, Tryz.ntmps74
      go_wp2_with fail
      refine HL.out.mono ?_
      rintro e w1 ⟨rfl, hS1⟩
      have k4 := HC.out w1 hS1
      have f4 := HF4.out w1 hS1
      have HS1 := Lib.hid (HA.out w1 hS1)
      clear hS1
      go_wp2_with fail
      refine (HM.out _ (HS1.out)).mono ?_
      rintro e w2 ⟨rfl, hS2⟩
      have HS2 := Lib.hid hS2
      clear hS2
      go_wp2
      go_ret
      exact ⟨rfl, HS2.out⟩
    rw [if_neg c5] at h
    by_cases c6 : lookR K.E s = ⟨#[83]⟩
    · rw [if_pos c6] at h
      have hlt := look_lt c6 (by decide)
      obtain ⟨hw1, hw2⟩ := adv_wrap (m := s.next) (by omega)
      rw [c6] at HL
      have HM := Lib.hid (fun W (hW : RP K W s.adv) => yModal_S hE hR h hW)
      clear h hS hwl hlt he c1 c2 c3 c4 c5 c6
      generalize (s.next : Int) = m at *
      go_enter Tryz.func74, Tryz.ntmps74
      go_wp2_with fail
      refine HL.out.mono ?_
      rintro e w1 ⟨rfl, hS1⟩
      have k4 := HC.out w1 hS1
      have f4 := HF4.out w1 hS1
      have HS1 := Lib.hid (HA.out w1 hS1)
      clear hS1
      go_wp2_with fail
      refine (HM.out _ (HS1.out)).mono ?_
      rintro e w2 ⟨rfl, hS2⟩
      have HS2 := Lib.hid hS2
      clear hS2
      go_wp2
      go_ret
      exact ⟨rfl, HS2.out⟩
    rw [if_neg c6] at h
    by_cases c7 : lookR K.E s = ⟨#[66]⟩
    · rw [if_pos c7] at h
      have hlt := look_lt c7 (by decide)
      obtain ⟨hw1, hw2⟩ := adv_wrap (m := s.next) (by omega)
      rw [c7] at HL
      have HM := Lib.hid (fun W (hW : RP K W s.adv) => yModal_B hE hR hF h hW)
      clear h hS hwl hlt he c1 c2 c3 c4 c5 c6 c7
      generalize (s.next : Int) = m at *
      go_enter Tryz.func74, Tryz.ntmps74
      go_wp2_with fail
      refine HL.out.mono ?_
      rintro e w1 ⟨rfl, hS1⟩
      have k4 := HC.out w1 hS1
      have f4 := HF4.out w1 hS1
      have HS1 := Lib.hid (HA.out w1 hS1)
      clear hS1
      go_wp2_with fail
      refine (HM.out _ (HS1.out)).mono ?_
      rintro e w2 ⟨rfl, hS2⟩
      have HS2 := Lib.hid hS2
      clear hS2
      go_wp2
      go_ret
      exact ⟨rfl, HS2.out⟩
    rw [if_neg c7] at h
    by_cases c8 : lookR K.E s = ⟨#[69]⟩
    · rw [if_pos c8] at h
      have hlt := look_lt c8 (by decide)
      obtain ⟨hw1, hw2⟩ := adv_wrap (m := s.next) (by omega)
      rw [c8] at HL
      have HM := Lib.hid (fun W (hW : RP K W s.adv) => yModal_E hE hR h hW)
      clear h hS hwl hlt he c1 c2 c3 c4 c5 c6 c7 c8
      generalize (s.next : Int) = m at *
      go_enter Tryz.func74, Tryz.ntmps74
      go_wp2_with fail
      refine HL.out.mono ?_
      rintro e w1 ⟨rfl, hS1⟩
      have k4 := HC.out w1 hS1
      have f4 := HF4.out w1 hS1
      have HS1 := Lib.hid (HA.out w1 hS1)
      clear hS1
      go_wp2_with fail
      refine (HM.out _ (HS1.out)).mono ?_
      rintro e w2 ⟨rfl, hS2⟩
      have HS2 := Lib.hid hS2
      clear hS2
      go_wp2
      go_ret
      exact ⟨rfl, HS2.out⟩
    rw [if_neg c8] at h
    by_cases c9 : lookR K.E s = ⟨#[68]⟩
    · rw [if_pos c9] at h
      have hlt := look_lt c9 (by decide)
      obtain ⟨hw1, hw2⟩ := adv_wrap (m := s.next) (by omega)
      rw [c9] at HL
      have HM := Lib.hid (fun W (hW : RP K W s.adv) => yModal_D hE hR h hW)
      clear h hS hwl hlt he c1 c2 c3 c4 c5 c6 c7 c8 c9
      generalize (s.next : Int) = m at *
      go_enter Tryz.func74, Tryz.ntmps74
      go_wp2_with fail
      refine HL.out.mono ?_
      rintro e w1 ⟨rfl, hS1⟩
      have k4 := HC.out w1 hS1
      have f4 := HF4.out w1 hS1
      have HS1 := Lib.hid (HA.out w1 hS1)
      clear hS1
      go_wp2_with fail
      refine (HM.out _ (HS1.out)).mono ?_
      rintro e w2 ⟨rfl, hS2⟩
      have HS2 := Lib.hid hS2
      clear hS2
      go_wp2
      go_ret
      exact ⟨rfl, HS2.out⟩
    rw [if_neg c9] at h
    by_cases c10 : lookR K.E s = ⟨#[67]⟩
    · rw [if_pos c10] at h
      have hlt := look_lt c10 (by decide)
      obtain ⟨hw1, hw2⟩ := adv_wrap (m := s.next) (by omega)
      rw [c10] at HL
      have HM := Lib.hid (fun W (hW : RP K W s.adv) => yModal_C hE hR hF h hW)
      clear h hS hwl hlt he c1 c2 c3 c4 c5 c6 c7 c8 c9 c10
      generalize (s.next : Int) = m at *
      go_enter Tryz.func74, Tryz.ntmps74
      go_wp2_with fail
      refine HL.out.mono ?_
      rintro e w1 ⟨rfl, hS1⟩
      have k4 := HC.out w1 hS1
      have f4 := HF4.out w1 hS1
      have HS1 := Lib.hid (HA.out w1 hS1)
      clear hS1
      go_wp2_with fail
      refine (HM.out _ (HS1.out)).mono ?_
      rintro e w2 ⟨rfl, hS2⟩
      have HS2 := Lib.hid hS2
      clear hS2
      go_wp2
      go_ret
      exact ⟨rfl, HS2.out⟩
    rw [if_neg c10] at h
    by_cases c11 : lookR K.E s = ⟨#[91]⟩
    · rw [if_pos c11] at h
      have hlt := look_lt c11 (by decide)
      obtain ⟨hw1, hw2⟩ := adv_wrap (m := s.next) (by omega)
      rw [c11] at HL
      have HM := Lib.hid (fun W (hW : RP K W s.adv) => yUpdate_any hE hR hF _ _ _ _ h hW)
      clear h hS hwl hlt he c1 c2 c3 c4 c5 c6 c7 c8 c9 c10 c11
      generalize (s.next : Int) = m at *
      go_enter Tryz.func74, Tryz.ntmps74
      go_wp2_with fail
      refine HL.out.mono ?_
      rintro e w1 ⟨rfl, hS1⟩
      have k4 := HC.out w1 hS1
      have f4 := HF4.out w1 hS1
      have HS1 := Lib.hid (HA.out w1 hS1)
      clear hS1
      go_wp2_with fail
      refine (HM.out _ (HS1.out)).mono ?_
      rintro e w2 ⟨rfl, hS2⟩
      have HS2 := Lib.hid hS2
      clear hS2
      go_wp2
      go_ret
      exact ⟨rfl, HS2.out⟩
    rw [if_neg c11] at h
    by_cases c12 : lookR K.E s = ⟨#[116, 114, 117, 101]⟩
    · rw [if_pos c12] at h
      have hlt := look_lt c12 (by decide)
      obtain ⟨hw1, hw2⟩ := adv_wrap (m := s.next) (by omega)
      rw [c12] at HL
      have HZ := Lib.hid h
      clear h hS hwl hlt he c1 c2 c3 c4 c5 c6 c7 c8 c9 c10 c11 c12
      generalize (s.next : Int) = m at *
      go_enter Tryz.func74, Tryz.ntmps74
      go_wp2_with fail
      refine HL.out.mono ?_
      rintro e w1 ⟨rfl, hS1⟩
      have k4 := HC.out w1 hS1
      have f4 := HF4.out w1 hS1
      have HS1 := Lib.hid (HA.out w1 hS1)
      clear hS1
      go_wp2_with fail
      refine (yNode_agg 1 0 0 0 0 0 HZ.out (HS1.out)).mono ?_
      rintro e w2 ⟨rfl, hS2⟩
      have HS2 := Lib.hid hS2
      clear hS2
      go_wp2
      go_ret
      exact ⟨rfl, HS2.out⟩
    rw [if_neg c12] at h
    by_cases c13 : lookR K.E s = ⟨#[102, 97, 108, 115, 101]⟩
    · rw [if_pos c13] at h
      have hlt := look_lt c13 (by decide)
      obtain ⟨hw1, hw2⟩ := adv_wrap (m := s.next) (by omega)
      rw [c13] at HL
      have HZ := Lib.hid h
      clear h hS hwl hlt he c1 c2 c3 c4 c5 c6 c7 c8 c9 c10 c11 c12 c13
      generalize (s.next : Int) = m at *
      go_enter Tryz.func74, Tryz.ntmps74
      go_wp2_with fail
      refine HL.out.mono ?_
      rintro e w1 ⟨rfl, hS1⟩
      have k4 := HC.out w1 hS1
      have f4 := HF4.out w1 hS1
      have HS1 := Lib.hid (HA.out w1 hS1)
      clear hS1
      go_wp2_with fail
      refine (yNode_agg 2 0 0 0 0 0 HZ.out (HS1.out)).mono ?_
      rintro e w2 ⟨rfl, hS2⟩
      have HS2 := Lib.hid hS2
      clear hS2
      go_wp2
      go_ret
      exact ⟨rfl, HS2.out⟩
    rw [if_neg c13] at h
    by_cases c14 : lookR K.E s = ⟨#[40]⟩
    · rw [if_pos c14] at h
      have hlt := look_lt c14 (by decide)
      obtain ⟨hw1, hw2⟩ := adv_wrap (m := s.next) (by omega)
      rw [c14] at HL
      unfold enclosedR at h
      obtain ⟨x, sx, hx, h⟩ := rbind_some h
      have Hx := Lib.hid hx
      obtain ⟨u, su, hu, h⟩ := rbind_some h
      have Hu := Lib.hid hu
      injection h with h
      injection h with h2 h3
      subst h2
      subst h3
      clear hx hu
      clear hS hwl hlt he c1 c2 c3 c4 c5 c6 c7 c8 c9 c10 c11 c12 c13 c14
      generalize (s.next : Int) = m at *
      go_enter Tryz.func74, Tryz.ntmps74
      go_wp2_with fail
      refine HL.out.mono ?_
      rintro e w1 ⟨rfl, hS1⟩
      have k4 := HC.out w1 hS1
      have f4 := HF4.out w1 hS1
      have HS1 := Lib.hid (HA.out w1 hS1)
      clear hS1
      go_wp2_with fail
      refine (hF _ _ _ _ Hx.out (HS1.out)).mono ?_
      rintro e w2 ⟨rfl, hS2⟩
      have HS2 := Lib.hid hS2
      clear hS2
      go_wp2_with fail
      refine (yWant_any hE ⟨#[41]⟩ Hu.out (HS2.out)).mono ?_
      rintro e w3 ⟨rfl, hS3⟩
      have HS3 := Lib.hid hS3
      clear hS3
      go_wp2
      go_ret
      exact ⟨rfl, HS3.out⟩
    rw [if_neg c14] at h
    have h1 : ((lookR K.E s).toList == [126]) = false := lit_no c1
    have h2 : ((lookR K.E s).toList == [110, 101, 120, 116]) = false := lit_no c2
    have h3 : ((lookR K.E s).toList == [112, 114, 101, 118]) = false := lit_no c3
    have h4 : ((lookR K.E s).toList == [75]) = false := lit_no c4
    have h5 : ((lookR K.E s).toList == [77]) = false := lit_no c5
    have h6 : ((lookR K.E s).toList == [83]) = false := lit_no c6
    have h7 : ((lookR K.E s).toList == [66]) = false := lit_no c7
    have h8 : ((lookR K.E s).toList == [69]) = false := lit_no c8
    have h9 : ((lookR K.E s).toList == [68]) = false := lit_no c9
    have h10 : ((lookR K.E s).toList == [67]) = false := lit_no c10
    have h11 : ((lookR K.E s).toList == [91]) = false := lit_no c11
    have h12 : ((lookR K.E s).toList == [116, 114, 117, 101]) = false := lit_no c12
    have h13 : ((lookR K.E s).toList == [102, 97, 108, 115, 101]) = false := lit_no c13
    have h14 : ((lookR K.E s).toList == [40]) = false := lit_no c14
    have HNF := Lib.hid (fun W (hW : RP K W s) => yName_fact hE s W hW)
    have HZ := Lib.hid (show nodeR ⟨3, ((nameR K.E 0 s).1 : Nat), 0, 0, 0, 0⟩ (nameR K.E 0 s).2 = some (v, s') from h)
    generalize nameR K.E 0 s = a at *
    generalize lookR K.E s = p at *
    clear h hS hwl he HA HC HF4 c1 c2 c3 c4 c5 c6 c7 c8 c9 c10 c11 c12 c13 c14
    go_enter Tryz.func74, Tryz.ntmps74
    go_wp2_with fail
    refine (HL.out).mono ?_
    rintro e w1 ⟨rfl, hS1⟩
    have HS1 := Lib.hid hS1
    clear hS1
    go_wp2_with fail
    refine (HNF.out _ (HS1.out)).mono ?_
    rintro e w2 ⟨rfl, hS2⟩
    have HS2 := Lib.hid hS2
    clear hS2
    go_wp2_with fail
    refine (yNode_agg 3 (a.1 : Int) 0 0 0 0 HZ.out (HS2.out)).mono ?_
    rintro e w3 ⟨rfl, hS3⟩
    have HS3 := Lib.hid hS3
    clear hS3
    go_wp2
    go_ret
    exact ⟨rfl, HS3.out⟩
  · rw [if_pos he] at h
    injection h with h
    injection h with h2 h3
    subst h2
    subst h3
    have hb : (s.e != 0) = true := by rw [bne_iff_ne]; exact he
    have HS := Lib.hid hS
    generalize s.e = z at *
    clear he hS HL hwl
    go_enter Tryz.func74, Tryz.ntmps74
    go_wp2
    go_ret
    exact ⟨rfl, HS.out⟩
end Go.Proofs.YthhkeobjjeldhaaGreatDoor
/- Layer 6: the rules of the reference's parser with loops, and all its rules together. -/
namespace Go.Proofs.YthhkeobjjeldhaaGreatDoor
open Go.RowKit Go.Proofs.Ws Go.Maps
set_option maxRecDepth 100000 in
set_option maxHeartbeats 2000000 in
theorem yRuleIff {K : RK} (hE : RE K) (n : Nat) (hR : ∀ m, m ≤ n → CtY K 35 (mR K.E m .implies)) : CtY K 18 (fun s => rbind (mR K.E n .implies s) fun x s => mR K.E n (.iffL x) s) := by
  intro s s' v w h hS
  obtain ⟨x, s1, h1, h2⟩ := rbind_some h
  have HR := Lib.hid hR
  have HC1 := Lib.hid (hR n (Nat.le_refl _) s s1 x w h1 hS)
  have H2 := Lib.hid h2
  clear h h1 h2 hS hR
  go_enter Tryz.func18, Tryz.ntmps18
  go_wp2_with fail
  refine HC1.out.mono ?_
  rintro e w1 ⟨rfl, hS1⟩
  have HS1 := Lib.hid hS1
  clear hS1
  go_wp2
  go_loopw [3] (fun xv wr => ∃ (m y : Nat) (t : RS), m ≤ n ∧ xv = .int .i64 y ∧ Hid (mR K.E m (.iffL y) t = some (v, s')) ∧ Hid (RP K wr t)) (fun _ wr => 5000 - nextR K wr)
  case atStart => exact ⟨n, x, s1, Nat.le_refl _, rfl, H2, HS1⟩
  case round =>
    clear HC1 H2 HS1
    obtain ⟨m, y, t, hmn, rfl, HM, HS⟩ := hrel
    obtain ⟨m', hm'⟩ : ∃ m', m = m' + 1 := by
      cases m with
      | zero => have := HM.out; unfold mR at this; cases this
      | succ m' => exact ⟨m', rfl⟩
    subst hm'
    have HC := Lib.hid (yTakes_any hE ⟨#[60, 45, 62]⟩ (by decide) t wr HS.out)
    have hdef : leftR K.E ⟨#[60, 45, 62]⟩ 8 (mR K.E m' .implies) (fun k => mR K.E m' (.iffL k)) y t = some (v, s') := HM.out
    unfold leftR at hdef
    cases hc : takesR K.E ⟨#[60, 45, 62]⟩ t with
    | true =>
      rw [if_pos hc] at hdef
      rw [hc, if_pos rfl] at HC
      have hlt : t.next < K.E.ws.length := look_lt (x := ⟨#[60, 45, 62]⟩) (by unfold takesR at hc; simp only [Bool.and_eq_true, decide_eq_true_eq] at hc; exact hc.2) (by decide)
      obtain ⟨z, t1, h1, hdef⟩ := rbind_some hdef
      obtain ⟨k, t2, h2, h3⟩ := rbind_some hdef
      have hwl := hE.wl
      have HMS : Hid (5000 - t2.next < 5000 - nextR K wr) := Lib.hid (by
        have e1 := mR_up K.E m' .implies t.adv.next t.adv (Nat.le_refl _) _ h1
        have e2 := UpY.add (n := ⟨8, 0, 0, 0, y, z⟩) (Nat.le_refl t1.next) _ h2
        have e3 : t.adv.next = t.next + 1 := rfl
        have e4 := HS.out.nextR
        dsimp only at e1 e2
        omega)
      have H1 := Lib.hid (fun W (hW : RP K W t.adv) => HR.out m' (by omega) _ _ _ W h1 hW)
      have H2 := Lib.hid h2
      have H3 := Lib.hid h3
      clear hc hlt h1 h2 h3 hdef HM HS hwl
      go_wp2_with fail
      refine HC.out.mono ?_
      rintro e w2 ⟨rfl, hS2⟩
      have HS2 := Lib.hid hS2
      clear hS2
      go_wp2_with fail
      refine (H1.out _ HS2.out).mono ?_
      rintro e w3 ⟨rfl, hS3⟩
      have HS3 := Lib.hid hS3
      clear hS3
      go_wp2_with fail
      refine (yNode_agg 8 0 0 0 (y : Int) (z : Int) H2.out HS3.out).mono ?_
      rintro e w4 ⟨rfl, hS4⟩
      have HS4 := Lib.hid hS4
      clear hS4
      go_wp2
      go_roundw
      case rel => exact ⟨m', k, t2, by omega, rfl, H3, HS4⟩
      case measure => rw [HS4.out.nextR]; exact HMS.out
    | false =>
      rw [if_neg (by rw [hc]; decide)] at hdef
      rw [hc, if_neg (by decide)] at HC
      injection hdef with hdef
      injection hdef with hv hs
      subst hv
      subst hs
      clear hc HM HS
      go_wp2_with fail
      refine HC.out.mono ?_
      rintro e w2 ⟨rfl, hS2⟩
      have HS2 := Lib.hid hS2
      clear hS2
      go_wp2
      go_ret
      exact ⟨rfl, HS2.out⟩
set_option maxRecDepth 100000 in
set_option maxHeartbeats 2000000 in
theorem yRuleOr {K : RK} (hE : RE K) (n : Nat) (hR : ∀ m, m ≤ n → CtY K 71 (mR K.E m .and)) : CtY K 64 (fun s => rbind (mR K.E n .and s) fun x s => mR K.E n (.orL x) s) := by
  intro s s' v w h hS
  obtain ⟨x, s1, h1, h2⟩ := rbind_some h
  have HR := Lib.hid hR
  have HC1 := Lib.hid (hR n (Nat.le_refl _) s s1 x w h1 hS)
  have H2 := Lib.hid h2
  clear h h1 h2 hS hR
  go_enter Tryz.func64, Tryz.ntmps64
  go_wp2_with fail
  refine HC1.out.mono ?_
  rintro e w1 ⟨rfl, hS1⟩
  have HS1 := Lib.hid hS1
  clear hS1
  go_wp2
  go_loopw [3] (fun xv wr => ∃ (m y : Nat) (t : RS), m ≤ n ∧ xv = .int .i64 y ∧ Hid (mR K.E m (.orL y) t = some (v, s')) ∧ Hid (RP K wr t)) (fun _ wr => 5000 - nextR K wr)
  case atStart => exact ⟨n, x, s1, Nat.le_refl _, rfl, H2, HS1⟩
  case round =>
    clear HC1 H2 HS1
    obtain ⟨m, y, t, hmn, rfl, HM, HS⟩ := hrel
    obtain ⟨m', hm'⟩ : ∃ m', m = m' + 1 := by
      cases m with
      | zero => have := HM.out; unfold mR at this; cases this
      | succ m' => exact ⟨m', rfl⟩
    subst hm'
    have HC := Lib.hid (yTakes_any hE ⟨#[124]⟩ (by decide) t wr HS.out)
    have hdef : leftR K.E ⟨#[124]⟩ 6 (mR K.E m' .and) (fun k => mR K.E m' (.orL k)) y t = some (v, s') := HM.out
    unfold leftR at hdef
    cases hc : takesR K.E ⟨#[124]⟩ t with
    | true =>
      rw [if_pos hc] at hdef
      rw [hc, if_pos rfl] at HC
      have hlt : t.next < K.E.ws.length := look_lt (x := ⟨#[124]⟩) (by unfold takesR at hc; simp only [Bool.and_eq_true, decide_eq_true_eq] at hc; exact hc.2) (by decide)
      obtain ⟨z, t1, h1, hdef⟩ := rbind_some hdef
      obtain ⟨k, t2, h2, h3⟩ := rbind_some hdef
      have hwl := hE.wl
      have HMS : Hid (5000 - t2.next < 5000 - nextR K wr) := Lib.hid (by
        have e1 := mR_up K.E m' .and t.adv.next t.adv (Nat.le_refl _) _ h1
        have e2 := UpY.add (n := ⟨6, 0, 0, 0, y, z⟩) (Nat.le_refl t1.next) _ h2
        have e3 : t.adv.next = t.next + 1 := rfl
        have e4 := HS.out.nextR
        dsimp only at e1 e2
        omega)
      have H1 := Lib.hid (fun W (hW : RP K W t.adv) => HR.out m' (by omega) _ _ _ W h1 hW)
      have H2 := Lib.hid h2
      have H3 := Lib.hid h3
      clear hc hlt h1 h2 h3 hdef HM HS hwl
      go_wp2_with fail
      refine HC.out.mono ?_
      rintro e w2 ⟨rfl, hS2⟩
      have HS2 := Lib.hid hS2
      clear hS2
      go_wp2_with fail
      refine (H1.out _ HS2.out).mono ?_
      rintro e w3 ⟨rfl, hS3⟩
      have HS3 := Lib.hid hS3
      clear hS3
      go_wp2_with fail
      refine (yNode_agg 6 0 0 0 (y : Int) (z : Int) H2.out HS3.out).mono ?_
      rintro e w4 ⟨rfl, hS4⟩
      have HS4 := Lib.hid hS4
      clear hS4
      go_wp2
      go_roundw
      case rel => exact ⟨m', k, t2, by omega, rfl, H3, HS4⟩
      case measure => rw [HS4.out.nextR]; exact HMS.out
    | false =>
      rw [if_neg (by rw [hc]; decide)] at hdef
      rw [hc, if_neg (by decide)] at HC
      injection hdef with hdef
      injection hdef with hv hs
      subst hv
      subst hs
      clear hc HM HS
      go_wp2_with fail
      refine HC.out.mono ?_
      rintro e w2 ⟨rfl, hS2⟩
      have HS2 := Lib.hid hS2
      clear hS2
      go_wp2
      go_ret
      exact ⟨rfl, HS2.out⟩
set_option maxRecDepth 100000 in
set_option maxHeartbeats 2000000 in
theorem yRuleAnd {K : RK} (hE : RE K) (n : Nat) (hR : ∀ m, m ≤ n → CtY K 74 (mR K.E m .pre)) : CtY K 71 (fun s => rbind (mR K.E n .pre s) fun x s => mR K.E n (.andL x) s) := by
  intro s s' v w h hS
  obtain ⟨x, s1, h1, h2⟩ := rbind_some h
  have HR := Lib.hid hR
  have HC1 := Lib.hid (hR n (Nat.le_refl _) s s1 x w h1 hS)
  have H2 := Lib.hid h2
  clear h h1 h2 hS hR
  go_enter Tryz.func71, Tryz.ntmps71
  go_wp2_with fail
  refine HC1.out.mono ?_
  rintro e w1 ⟨rfl, hS1⟩
  have HS1 := Lib.hid hS1
  clear hS1
  go_wp2
  go_loopw [3] (fun xv wr => ∃ (m y : Nat) (t : RS), m ≤ n ∧ xv = .int .i64 y ∧ Hid (mR K.E m (.andL y) t = some (v, s')) ∧ Hid (RP K wr t)) (fun _ wr => 5000 - nextR K wr)
  case atStart => exact ⟨n, x, s1, Nat.le_refl _, rfl, H2, HS1⟩
  case round =>
    clear HC1 H2 HS1
    obtain ⟨m, y, t, hmn, rfl, HM, HS⟩ := hrel
    obtain ⟨m', hm'⟩ : ∃ m', m = m' + 1 := by
      cases m with
      | zero => have := HM.out; unfold mR at this; cases this
      | succ m' => exact ⟨m', rfl⟩
    subst hm'
    have HC := Lib.hid (yTakes_any hE ⟨#[38]⟩ (by decide) t wr HS.out)
    have hdef : leftR K.E ⟨#[38]⟩ 5 (mR K.E m' .pre) (fun k => mR K.E m' (.andL k)) y t = some (v, s') := HM.out
    unfold leftR at hdef
    cases hc : takesR K.E ⟨#[38]⟩ t with
    | true =>
      rw [if_pos hc] at hdef
      rw [hc, if_pos rfl] at HC
      have hlt : t.next < K.E.ws.length := look_lt (x := ⟨#[38]⟩) (by unfold takesR at hc; simp only [Bool.and_eq_true, decide_eq_true_eq] at hc; exact hc.2) (by decide)
      obtain ⟨z, t1, h1, hdef⟩ := rbind_some hdef
      obtain ⟨k, t2, h2, h3⟩ := rbind_some hdef
      have hwl := hE.wl
      have HMS : Hid (5000 - t2.next < 5000 - nextR K wr) := Lib.hid (by
        have e1 := mR_up K.E m' .pre t.adv.next t.adv (Nat.le_refl _) _ h1
        have e2 := UpY.add (n := ⟨5, 0, 0, 0, y, z⟩) (Nat.le_refl t1.next) _ h2
        have e3 : t.adv.next = t.next + 1 := rfl
        have e4 := HS.out.nextR
        dsimp only at e1 e2
        omega)
      have H1 := Lib.hid (fun W (hW : RP K W t.adv) => HR.out m' (by omega) _ _ _ W h1 hW)
      have H2 := Lib.hid h2
      have H3 := Lib.hid h3
      clear hc hlt h1 h2 h3 hdef HM HS hwl
      go_wp2_with fail
      refine HC.out.mono ?_
      rintro e w2 ⟨rfl, hS2⟩
      have HS2 := Lib.hid hS2
      clear hS2
      go_wp2_with fail
      refine (H1.out _ HS2.out).mono ?_
      rintro e w3 ⟨rfl, hS3⟩
      have HS3 := Lib.hid hS3
      clear hS3
      go_wp2_with fail
      refine (yNode_agg 5 0 0 0 (y : Int) (z : Int) H2.out HS3.out).mono ?_
      rintro e w4 ⟨rfl, hS4⟩
      have HS4 := Lib.hid hS4
      clear hS4
      go_wp2
      go_roundw
      case rel => exact ⟨m', k, t2, by omega, rfl, H3, HS4⟩
      case measure => rw [HS4.out.nextR]; exact HMS.out
    | false =>
      rw [if_neg (by rw [hc]; decide)] at hdef
      rw [hc, if_neg (by decide)] at HC
      injection hdef with hdef
      injection hdef with hv hs
      subst hv
      subst hs
      clear hc HM HS
      go_wp2_with fail
      refine HC.out.mono ?_
      rintro e w2 ⟨rfl, hS2⟩
      have HS2 := Lib.hid hS2
      clear hS2
      go_wp2
      go_ret
      exact ⟨rfl, HS2.out⟩
/-- the reference's rules do what its machine does -/
structure RulesY (K : RK) (n : Nat) : Prop where
  formula : CtY K 18 (mR K.E n .formula)
  implies : CtY K 35 (mR K.E n .implies)
  time : CtY K 55 (mR K.E n .time)
  or : CtY K 64 (mR K.E n .or)
  and : CtY K 71 (mR K.E n .and)
  pre : CtY K 74 (mR K.E n .pre)
theorem rulesY_all {K : RK} (hE : RE K) : ∀ n m, m ≤ n → RulesY K m := by
  intro n
  induction n with
  | zero =>
    intro m hm
    have : m = 0 := by omega
    subst this
    refine ⟨?_, ?_, ?_, ?_, ?_, ?_⟩ <;> (intro s s' v w h _; exact absurd h (by simp [mR]))
  | succ n ih =>
    intro m hm
    by_cases hle : m ≤ n
    · exact ih m hle
    · have : m = n + 1 := by omega
      subst this
      have hn := ih n (Nat.le_refl _)
      exact ⟨yRuleIff hE n (fun k hk => (ih k hk).implies), yImplies_any hE hn.time hn.implies, yTime_any hE hn.or hn.time, yRuleOr hE n (fun k hk => (ih k hk).and), yRuleAnd hE n (fun k hk => (ih k hk).pre), yPrefix_any hE hn.pre hn.formula⟩
theorem yFormula_any {K : RK} (hE : RE K) (n : Nat) : CtY K 18 (mR K.E n .formula) := (rulesY_all hE n n (Nat.le_refl _)).formula
end Go.Proofs.YthhkeobjjeldhaaGreatDoor
