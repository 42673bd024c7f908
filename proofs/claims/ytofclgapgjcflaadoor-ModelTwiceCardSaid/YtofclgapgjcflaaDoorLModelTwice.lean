/- ModelTwice (P13.5): a restriction of a restriction is a restriction, and each world keeps its facts. No condition. -/
import Derived.Test.YtofclgapgjcflaaDoorEn
import Derived.Test.YtofclgapgjcflaaDoorEo
import Derived.Test.YtofclgapgjcflaaDoorEc
namespace Go.Proofs.YtofclgapgjcflaaDoor.modelTwice
open Go.ChangeShapes Go.WideShapes Go.ChangeAt Go.RowKit Go.Proofs.YtofclgapgjcflaaDoor Go.Proofs.YtofclgapgjcflaaDoor.mdl Go.Proofs.Ws
open Go.ChangeMaps (open_string shut_string)
set_option maxRecDepth 100000
set_option maxHeartbeats 16000000 in
theorem walk (m : Mo) (v : Value) (s : Nat) (t : Nat) (w : World) (hM : MoR w w.heap.size v m) (hs : s < 18446744073709551616) (ht : t < 18446744073709551616) (hT : Tab w) :
    Calls Tryd.prog 7 #[v, .int .u64 (s : Int), .int .u64 (t : Int)] w fun e w' => e = .returned (.bool true) ∧ Below w.heap.size w w' := by
  obtain ⟨A1, c1, A2, c2, rfl, hv, hr⟩ := hM.ex
  have HB := Lib.hid (MBox.made w m.n (.slice A1 m.val.length c1) (.slice A2 m.rel.length c2))
  have HBe : Hid (Below w.heap.size w (w.alloc (.cells #[.int .i64 m.n, .slice A1 m.val.length c1, .slice A2 m.rel.length c2] 25))) := Lib.hid ((Below.refl _ w).alloc (Nat.le_refl _) _)
  have HMW := Lib.hid (fun W (hb : Below w.heap.size w W) => hM.below hb hb.size)
  have HTW := Lib.hid (fun W (hb : Below w.heap.size w W) => hT.below hb)
  have HAW : Hid (∀ W, Below w.heap.size w W → Calls Tryd.prog 11 #[] W fun e w' => e = .returned (.bool true) ∧ Below W.heap.size W w') := Lib.hid (fun W hb => awake13_any W (hT.below hb))
  have HFW : Hid (∀ W, Below w.heap.size w W → Calls Tryd.prog 12 #[.agg #[.int .i64 m.n, .slice A1 m.val.length c1, .slice A2 m.rel.length c2]] W fun e w' => e = .returned (.bool (fewM m)) ∧ Below W.heap.size W w') := Lib.hid (fun W hb => lFew_any m _ W (HMW.out W hb))
  have HCW : Hid (∀ W, Below w.heap.size w W → Calls Tryd.prog 14 #[.agg #[.int .i64 m.n, .slice A1 m.val.length c1, .slice A2 m.rel.length c2]] W fun e w' => e = .returned (.int .i64 (chkM m)) ∧ Below W.heap.size W w') := Lib.hid (fun W hb => rCheck_any m _ W (HMW.out W hb))
  clear hM hv hr
  by_cases hf : fewM m = true
  case neg =>
    have hf2 : fewM m = false := by simpa using hf
    rw [hf2] at HFW
    clear hf hf2
    go_enter Tryd.func7, Tryd.ntmps7
    go_wp2_with fail
    refine (HAW.out _ HBe.out).mono ?_
    rintro e w2 ⟨rfl, hb2⟩
    have HB2 := Lib.hid (HBe.out.trans (hb2.mono HBe.out.size))
    have HX := Lib.hid (HB.out.below hb2 HB.out.lt)
    clear hb2
    have b0 := HX.out.c0
    have b1 := HX.out.c1
    have b2 := HX.out.c2
    go_wp2_with fail
    refine (HFW.out _ HB2.out).mono ?_
    rintro e w3 ⟨rfl, hb3⟩
    have HB3 := Lib.hid (HB2.out.trans (hb3.mono HB2.out.size))
    have HX3 := Lib.hid (HX.out.below hb3 HX.out.lt)
    clear hb3 b0 b1 b2
    go_wp2_with fail
    refine (HAW.out _ HB3.out).mono ?_
    rintro e w9 ⟨rfl, hb9⟩
    have HB9 := Lib.hid (HB3.out.trans (hb9.mono HB3.out.size))
    clear hb9
    go_wp2
    go_ret
    exact ⟨rfl, HB9.out⟩
  case pos =>
    rw [hf] at HFW
    clear hf
    by_cases hz : chkM m = 0
    case neg =>
      have hne : (chkM m != 0) = true := by rw [bne_iff_ne]; exact hz
      generalize chkM m = cm at *
      clear hz
      go_enter Tryd.func7, Tryd.ntmps7
      go_wp2_with fail
      refine (HAW.out _ HBe.out).mono ?_
      rintro e w2 ⟨rfl, hb2⟩
      have HB2 := Lib.hid (HBe.out.trans (hb2.mono HBe.out.size))
      have HX := Lib.hid (HB.out.below hb2 HB.out.lt)
      clear hb2
      have b0 := HX.out.c0
      have b1 := HX.out.c1
      have b2 := HX.out.c2
      go_wp2_with fail
      refine (HFW.out _ HB2.out).mono ?_
      rintro e w3 ⟨rfl, hb3⟩
      have HB3 := Lib.hid (HB2.out.trans (hb3.mono HB2.out.size))
      have HX3 := Lib.hid (HX.out.below hb3 HX.out.lt)
      clear hb3 b0 b1 b2
      have b0 := HX3.out.c0
      have b1 := HX3.out.c1
      have b2 := HX3.out.c2
      go_wp2_with fail
      refine (HCW.out _ HB3.out).mono ?_
      rintro e w4 ⟨rfl, hb4⟩
      have HB4 := Lib.hid (HB3.out.trans (hb4.mono HB3.out.size))
      have HX4 := Lib.hid (HX3.out.below hb4 HX3.out.lt)
      clear hb4 b0 b1 b2
      go_wp2_with fail
      refine (HAW.out _ HB4.out).mono ?_
      rintro e w9 ⟨rfl, hb9⟩
      have HB9 := Lib.hid (HB4.out.trans (hb9.mono HB4.out.size))
      clear hb9
      go_wp2
      go_ret
      exact ⟨rfl, HB9.out⟩
    case pos =>
      rw [hz] at HCW
      by_cases he : restE m s = 0
      case neg =>
        have HRW : Hid (∀ W, Below w.heap.size w W → Calls Tryd.prog 17 #[.agg #[.int .i64 m.n, .slice A1 m.val.length c1, .slice A2 m.rel.length c2], .int .u64 (s : Int)] W fun e w' => ∃ v' A c, e = .returned (.tuple #[v', .slice A 0 c, .int .i64 (restE m s)]) ∧ MoF w' W.heap.size v' mo0 ∧ Below W.heap.size W w') := Lib.hid (fun W hb => (pRestrict_any m _ s W (HMW.out W hb) hs (HTW.out W hb)).mono (by
          have hm0 : restM m s = mo0 := by unfold restM; rw [if_neg he]
          have hl0 : restL m s = [] := by unfold restL; rw [if_neg he]
          rw [hm0, hl0]
          rintro e w' ⟨v', A, c, h1, h2, _, h4⟩
          exact ⟨v', A, c, h1, h2, h4⟩))
        have hne : (restE m s != 0) = true := by rw [bne_iff_ne]; exact he
        generalize restE m s = re at *
        clear he hz HMW
        go_enter Tryd.func7, Tryd.ntmps7
        go_wp2_with fail
        refine (HAW.out _ HBe.out).mono ?_
        rintro e w2 ⟨rfl, hb2⟩
        have HB2 := Lib.hid (HBe.out.trans (hb2.mono HBe.out.size))
        have HX := Lib.hid (HB.out.below hb2 HB.out.lt)
        clear hb2
        have b0 := HX.out.c0
        have b1 := HX.out.c1
        have b2 := HX.out.c2
        go_wp2_with fail
        refine (HFW.out _ HB2.out).mono ?_
        rintro e w3 ⟨rfl, hb3⟩
        have HB3 := Lib.hid (HB2.out.trans (hb3.mono HB2.out.size))
        have HX3 := Lib.hid (HX.out.below hb3 HX.out.lt)
        clear hb3 b0 b1 b2
        have b0 := HX3.out.c0
        have b1 := HX3.out.c1
        have b2 := HX3.out.c2
        go_wp2_with fail
        refine (HCW.out _ HB3.out).mono ?_
        rintro e w4 ⟨rfl, hb4⟩
        have HB4 := Lib.hid (HB3.out.trans (hb4.mono HB3.out.size))
        have HX4 := Lib.hid (HX3.out.below hb4 HX3.out.lt)
        clear hb4 b0 b1 b2
        have HB := HB4
        have HX := HX4
        clear HB2 HB3 HB4 HX3 HX4
        have HX_0 := HX.out.c0
        have HX_1 := HX.out.c1
        have HX_2 := HX.out.c2
        have HX_l := HX.out.lt
        go_wp2_with fail
        clear HX_0 HX_1 HX_2 HX_l
        refine (HRW.out _ HB.out).mono ?_
        rintro e w5 ⟨va, La, lca, rfl, hm, hb⟩
        replace HB := Lib.hid (upB HB.out (Nat.le_refl _) hb)
        replace HX := Lib.hid (upX HX.out hb)
        clear hb
        have hm := hm.self
        obtain ⟨U1, e1, U2, e2, rfl⟩ := hm.shape (n := 0) (k := 0) (q := 0) rfl rfl rfl
        clear hm
        go_wp2
        go_ret
        exact ⟨rfl, HB.out.alloc HB.out.size _⟩
      case pos =>
        obtain ⟨hA, hl1⟩ := twice_a he hs
        have HRW : Hid (∀ W, Below w.heap.size w W → Calls Tryd.prog 17 #[.agg #[.int .i64 m.n, .slice A1 m.val.length c1, .slice A2 m.rel.length c2], .int .u64 (s : Int)] W fun e w' => ∃ v' A c, e = .returned (.tuple #[v', .slice A (mem s).length c, .int .i64 0]) ∧ MoF w' W.heap.size v' (restM m s) ∧ Reads w' w'.heap.size 1 A (mem s).length (iv (mem s)) ∧ Below W.heap.size W w') := Lib.hid (fun W hb => by
          have h := pRestrict_any m _ s W (HMW.out W hb) hs (HTW.out W hb)
          rw [hl1, he] at h
          exact h)
        clear he hl1
        generalize restM m s = am at *
        generalize mem s = L at *
        generalize L.length = p at *
        have HA := Lib.hid hA
        obtain ⟨hn1, hn2, hn3⟩ := hA.nums
        have HN1 := Lib.hid hn1
        have HN2 := Lib.hid hn2
        have HN3 := Lib.hid hn3
        have hp1 := hA.aok.pos
        have hp64 := hA.aok.le
        have hmax : ∀ (ts : Array TypeId) (t : TypeId) (W : World), (Builtin.max_ ts t #[.int .i64 1, .int .i64 (p : Int)]).run Tryd.prog W = .ok (.int .i64 (p : Int)) W := fun ts t W => max2_run13 ts t 1 p p W (by omega)
        have hmin : ∀ (ts : Array TypeId) (t : TypeId) (W : World), (Builtin.min_ ts t #[.int .i64 64, .int .i64 (p : Int)]).run Tryd.prog W = .ok (.int .i64 (p : Int)) W := fun ts t W => min2_run13 ts t 64 p p W (by omega)
        have hal : 2 ^ p - 1 < 18446744073709551616 := by have := Nat.pow_le_pow_right (show 0 < 2 by decide) hp64; omega
        have hand := u64_and_nat t (2 ^ p - 1) ht hal
        have hrp : t &&& (2 ^ p - 1) < 2 ^ p := Nat.lt_of_le_of_lt Nat.and_le_right (by have := Nat.two_pow_pos p; omega)
        have hr64 : t &&& (2 ^ p - 1) < 18446744073709551616 := Nat.lt_of_le_of_lt Nat.and_le_right hal
        generalize t &&& (2 ^ p - 1) = r at *
        have HALp := Lib.hid (fun W => rAll_any p W hp64)
        have HRP := Lib.hid hrp
        have HR64 := Lib.hid hr64
        clear hal hn1 hn2 hn3 hz hrp hr64
        by_cases h0 : r = 0
        case pos =>
          subst h0
          have hand0 : bits .and .u64 (t : Int) ((2 ^ p - 1 : Nat) : Int) = 0 := by rw [hand]; rfl
          have HRB : Hid (∀ W v, MoR W W.heap.size v am → Tab W → Calls Tryd.prog 17 #[v, .int .u64 0] W fun e w' => ∃ v' A c, e = .returned (.tuple #[v', .slice A 0 c, .int .i64 6]) ∧ MoF w' W.heap.size v' mo0 ∧ Below W.heap.size W w') := Lib.hid (fun W v h1 h2 => by
            obtain ⟨x1, x2, x3⟩ := twice_none hA
            have h := pRestrict_any am v 0 W h1 (by decide) h2
            rw [x1, x2, x3] at h
            exact h.mono (by rintro e w' ⟨v', A, c, h1, h2, _, h4⟩; exact ⟨v', A, c, h1, h2, h4⟩))
          clear hand hA
          generalize 2 ^ p - 1 = al at *
          go_enter Tryd.func7, Tryd.ntmps7
          go_wp2_with fail
          refine (HAW.out _ HBe.out).mono ?_
          rintro e w2 ⟨rfl, hb2⟩
          have HB2 := Lib.hid (HBe.out.trans (hb2.mono HBe.out.size))
          have HX := Lib.hid (HB.out.below hb2 HB.out.lt)
          clear hb2
          have b0 := HX.out.c0
          have b1 := HX.out.c1
          have b2 := HX.out.c2
          go_wp2_with fail
          refine (HFW.out _ HB2.out).mono ?_
          rintro e w3 ⟨rfl, hb3⟩
          have HB3 := Lib.hid (HB2.out.trans (hb3.mono HB2.out.size))
          have HX3 := Lib.hid (HX.out.below hb3 HX.out.lt)
          clear hb3 b0 b1 b2
          have b0 := HX3.out.c0
          have b1 := HX3.out.c1
          have b2 := HX3.out.c2
          go_wp2_with fail
          refine (HCW.out _ HB3.out).mono ?_
          rintro e w4 ⟨rfl, hb4⟩
          have HB4 := Lib.hid (HB3.out.trans (hb4.mono HB3.out.size))
          have HX4 := Lib.hid (HX3.out.below hb4 HX3.out.lt)
          clear hb4 b0 b1 b2
          have HB := HB4
          have HX := HX4
          clear HB2 HB3 HB4 HX3 HX4
          have HX_0 := HX.out.c0
          have HX_1 := HX.out.c1
          have HX_2 := HX.out.c2
          have HX_l := HX.out.lt
          go_wp2_with fail
          clear HX_0 HX_1 HX_2 HX_l
          refine (HRW.out _ HB.out).mono ?_
          rintro e w5 ⟨va, La, lca, rfl, hm, hl, hb⟩
          replace HB := Lib.hid (upB HB.out (Nat.le_refl _) hb)
          replace HX := Lib.hid (upX HX.out hb)
          clear hb
          have hm := hm.self
          obtain ⟨U1, e1, U2, e2, rfl⟩ := hm.shape (n := (p : Int)) (k := m.val.length) (q := m.rel.length) HN1.out HN2.out HN3.out
          have HMA := Lib.hid hm
          have HRL := Lib.hid hl
          clear hm hl
          have HX_0 := HX.out.c0
          have HX_1 := HX.out.c1
          have HX_2 := HX.out.c2
          have HX_l := HX.out.lt
          go_wp2_with fail
          clear HX_0 HX_1 HX_2 HX_l
          have hb : Below w5.heap.size w5 (w5.alloc (.cells #[.int .i64 ((p : Int)), .slice U1 m.val.length e1, .slice U2 m.rel.length e2] 25)) := (Below.refl _ _).alloc (Nat.le_refl _) _
          have HXa := Lib.hid (MBox.made w5 ((p : Int)) (.slice U1 m.val.length e1) (.slice U2 m.rel.length e2))
          generalize hW : w5.alloc (.cells #[.int .i64 ((p : Int)), .slice U1 m.val.length e1, .slice U2 m.rel.length e2] 25) = w6 at *
          clear hW
          replace HB := Lib.hid (upB HB.out (Nat.le_refl _) hb)
          replace HX := Lib.hid (upX HX.out hb)
          replace HMA := Lib.hid (upM HMA.out hb)
          replace HRL := Lib.hid (up13 HRL.out hb)
          clear hb
          generalize w5.heap.size = bHXa at *
          refine (HALp.out _).mono ?_
          rintro e w54 ⟨rfl, rfl⟩
          have HXa_0 := HXa.out.c0
          have HXa_1 := HXa.out.c1
          have HXa_2 := HXa.out.c2
          have HXa_l := HXa.out.lt
          go_wp2_with fail
          clear HXa_0 HXa_1 HXa_2 HXa_l
          refine (HRB.out _ _ HMA.out (HTW.out _ HB.out)).mono ?_
          rintro e w7 ⟨vb, Lb, lcb, rfl, hm, hb⟩
          replace HB := Lib.hid (upB HB.out (Nat.le_refl _) hb)
          replace HX := Lib.hid (upX HX.out hb)
          replace HMA := Lib.hid (upM HMA.out hb)
          replace HRL := Lib.hid (up13 HRL.out hb)
          replace HXa := Lib.hid (upX HXa.out hb)
          clear hb
          have hm := hm.self
          obtain ⟨V1, d1, V2, d2, rfl⟩ := hm.shape (n := 0) (k := 0) (q := 0) rfl rfl rfl
          clear hm
          go_wp2
          go_ret
          exact ⟨rfl, HB.out.alloc HB.out.size _⟩
        case neg =>
          obtain ⟨y1, y2, hBt⟩ := twice_b hA HRP.out h0
          have HRB : Hid (∀ W v, MoR W W.heap.size v am → Tab W → Calls Tryd.prog 17 #[v, .int .u64 (r : Int)] W fun e w' => ∃ v' A c, e = .returned (.tuple #[v', .slice A (mem r).length c, .int .i64 0]) ∧ MoF w' W.heap.size v' (restM am r) ∧ Reads w' w'.heap.size 1 A (mem r).length (iv (mem r)) ∧ Below W.heap.size W w') := Lib.hid (fun W v h1 h2 => by
            have h := pRestrict_any am v r W h1 HR64.out h2
            rw [y1, y2] at h
            exact h)
          clear y1 y2 h0 hA
          generalize restM am r = bm at *
          generalize mem r = K at *
          generalize K.length = q at *
          have HBT := Lib.hid hBt
          have HN4 := Lib.hid hBt.num
          have HN5 := Lib.hid hBt.vals
          have HN6 := Lib.hid hBt.rels
          have hq64 := hBt.le
          have HRC : Hid (∀ W, Below w.heap.size w W → Calls Tryd.prog 17 #[.agg #[.int .i64 m.n, .slice A1 m.val.length c1, .slice A2 m.rel.length c2], .int .u64 ((setK L K q : Nat) : Int)] W fun e w' => ∃ v' A n c, e = .returned (.tuple #[v', .slice A n c, .int .i64 0]) ∧ MoF w' W.heap.size v' bm ∧ Below W.heap.size W w') := Lib.hid (fun W hb => by
            have h := pRestrict_any m _ (setK L K q) W (HMW.out W hb) (hBt.small q (Nat.le_refl _)) (HTW.out W hb)
            rw [hBt.lastE, hBt.lastM] at h
            exact h.mono (by rintro e w' ⟨v', A, c, h1, h2, _, h4⟩; exact ⟨v', A, _, c, h1, h2, h4⟩))
          clear hBt
          generalize 2 ^ p - 1 = al at *
          go_enter Tryd.func7, Tryd.ntmps7
          go_wp2_with fail
          refine (HAW.out _ HBe.out).mono ?_
          rintro e w2 ⟨rfl, hb2⟩
          have HB2 := Lib.hid (HBe.out.trans (hb2.mono HBe.out.size))
          have HX := Lib.hid (HB.out.below hb2 HB.out.lt)
          clear hb2
          have b0 := HX.out.c0
          have b1 := HX.out.c1
          have b2 := HX.out.c2
          go_wp2_with fail
          refine (HFW.out _ HB2.out).mono ?_
          rintro e w3 ⟨rfl, hb3⟩
          have HB3 := Lib.hid (HB2.out.trans (hb3.mono HB2.out.size))
          have HX3 := Lib.hid (HX.out.below hb3 HX.out.lt)
          clear hb3 b0 b1 b2
          have b0 := HX3.out.c0
          have b1 := HX3.out.c1
          have b2 := HX3.out.c2
          go_wp2_with fail
          refine (HCW.out _ HB3.out).mono ?_
          rintro e w4 ⟨rfl, hb4⟩
          have HB4 := Lib.hid (HB3.out.trans (hb4.mono HB3.out.size))
          have HX4 := Lib.hid (HX3.out.below hb4 HX3.out.lt)
          clear hb4 b0 b1 b2
          have HB := HB4
          have HX := HX4
          clear HB2 HB3 HB4 HX3 HX4
          have HX_0 := HX.out.c0
          have HX_1 := HX.out.c1
          have HX_2 := HX.out.c2
          have HX_l := HX.out.lt
          go_wp2_with fail
          clear HX_0 HX_1 HX_2 HX_l
          refine (HRW.out _ HB.out).mono ?_
          rintro e w5 ⟨va, La, lca, rfl, hm, hl, hb⟩
          replace HB := Lib.hid (upB HB.out (Nat.le_refl _) hb)
          replace HX := Lib.hid (upX HX.out hb)
          clear hb
          have hm := hm.self
          obtain ⟨U1, e1, U2, e2, rfl⟩ := hm.shape (n := (p : Int)) (k := m.val.length) (q := m.rel.length) HN1.out HN2.out HN3.out
          have HMA := Lib.hid hm
          have HRL := Lib.hid hl
          clear hm hl
          have HX_0 := HX.out.c0
          have HX_1 := HX.out.c1
          have HX_2 := HX.out.c2
          have HX_l := HX.out.lt
          go_wp2_with fail
          clear HX_0 HX_1 HX_2 HX_l
          have hb : Below w5.heap.size w5 (w5.alloc (.cells #[.int .i64 ((p : Int)), .slice U1 m.val.length e1, .slice U2 m.rel.length e2] 25)) := (Below.refl _ _).alloc (Nat.le_refl _) _
          have HXa := Lib.hid (MBox.made w5 ((p : Int)) (.slice U1 m.val.length e1) (.slice U2 m.rel.length e2))
          generalize hW : w5.alloc (.cells #[.int .i64 ((p : Int)), .slice U1 m.val.length e1, .slice U2 m.rel.length e2] 25) = w6 at *
          clear hW
          replace HB := Lib.hid (upB HB.out (Nat.le_refl _) hb)
          replace HX := Lib.hid (upX HX.out hb)
          replace HMA := Lib.hid (upM HMA.out hb)
          replace HRL := Lib.hid (up13 HRL.out hb)
          clear hb
          generalize w5.heap.size = bHXa at *
          refine (HALp.out _).mono ?_
          rintro e w54 ⟨rfl, rfl⟩
          have HXa_0 := HXa.out.c0
          have HXa_1 := HXa.out.c1
          have HXa_2 := HXa.out.c2
          have HXa_l := HXa.out.lt
          go_wp2_with fail
          clear HXa_0 HXa_1 HXa_2 HXa_l
          refine (HRB.out _ _ HMA.out (HTW.out _ HB.out)).mono ?_
          rintro e w7 ⟨vb, Lb, lcb, rfl, hm, hl, hb⟩
          replace HB := Lib.hid (upB HB.out (Nat.le_refl _) hb)
          replace HX := Lib.hid (upX HX.out hb)
          replace HMA := Lib.hid (upM HMA.out hb)
          replace HRL := Lib.hid (up13 HRL.out hb)
          replace HXa := Lib.hid (upX HXa.out hb)
          clear hb
          have hm := hm.self
          obtain ⟨V1, d1, V2, d2, rfl⟩ := hm.shape (n := (q : Int)) (k := m.val.length) (q := m.rel.length) HN4.out HN5.out HN6.out
          have HMB := Lib.hid hm
          have HRK := Lib.hid hl
          clear hm hl
          clear hmax hmin hand
          have HX_0 := HX.out.c0
          have HX_1 := HX.out.c1
          have HX_2 := HX.out.c2
          have HX_l := HX.out.lt
          have HXa_0 := HXa.out.c0
          have HXa_1 := HXa.out.c1
          have HXa_2 := HXa.out.c2
          have HXa_l := HXa.out.lt
          go_wp2_with fail
          clear HX_0 HX_1 HX_2 HX_l
          clear HXa_0 HXa_1 HXa_2 HXa_l
          have hb : Below w7.heap.size w7 (w7.alloc (.cells #[.int .i64 ((q : Int)), .slice V1 m.val.length d1, .slice V2 m.rel.length d2] 25)) := (Below.refl _ _).alloc (Nat.le_refl _) _
          have HXb := Lib.hid (MBox.made w7 ((q : Int)) (.slice V1 m.val.length d1) (.slice V2 m.rel.length d2))
          generalize hW : w7.alloc (.cells #[.int .i64 ((q : Int)), .slice V1 m.val.length d1, .slice V2 m.rel.length d2] 25) = w8 at *
          clear hW
          replace HB := Lib.hid (upB HB.out (Nat.le_refl _) hb)
          replace HX := Lib.hid (upX HX.out hb)
          replace HMA := Lib.hid (upM HMA.out hb)
          replace HRL := Lib.hid (up13 HRL.out hb)
          replace HXa := Lib.hid (upX HXa.out hb)
          replace HMB := Lib.hid (upM HMB.out hb)
          replace HRK := Lib.hid (up13 HRK.out hb)
          clear hb
          generalize w7.heap.size = bHXb at *
          go_loopw [14, 15, 16, 74] (fun u14 _ _ i wr => ∃ j : Nat, j ≤ q ∧ i = .int .i64 j ∧ u14 = .int .u64 ((setK L K j : Nat) : Int) ∧ Hid (Below w8.heap.size w8 wr)) (fun _ _ _ i _ => q - (intOf i).toNat)
          case atStart => exact ⟨0, Nat.zero_le _, rfl, rfl, Lib.hid (Below.refl _ _)⟩
          case round =>
            obtain ⟨j, hj, rfl, rfl, HO⟩ := hrel
            by_cases hlt : j < q
            · have hxp := HBT.out.below j hlt
              have HF1 := HBT.out.fact j hlt
              obtain ⟨adK, rfl, _, hcK⟩ := (HRK.out.below HO.out).iv_k hlt
              obtain ⟨adL, rfl, hbL, hcL⟩ := HRL.out.iv_k hxp
              have hy64 := HA.out.name hxp
              have hset := set_or (L := L) (K := K) (k := j) rfl hy64 (HBT.out.small j hj)
              have KF1 : Hid (∀ W, Hid (Below w8.heap.size w8 W) → Calls Tryd.prog 15 #[.agg #[.int .i64 (q : Int), .slice V1 m.val.length d1, .slice V2 m.rel.length d2], .int .i64 (j : Int)] W fun e w' => e = .returned (.int .i64 (factV bm (j : Int))) ∧ Below W.heap.size W w') := Lib.hid (fun W h => (pFacts_any bm _ (j : Int) W (HMB.out.below h.out h.out.size)))
              have KF2 : Hid (∀ W, Hid (Below w8.heap.size w8 W) → Calls Tryd.prog 15 #[.agg #[.int .i64 m.n, .slice A1 m.val.length c1, .slice A2 m.rel.length c2], .int .i64 ((L.getD (K.getD j 0) 0 : Nat) : Int)] W fun e w' => e = .returned (.int .i64 (factV m ((L.getD (K.getD j 0) 0 : Nat) : Int))) ∧ Below W.heap.size W w') := Lib.hid (fun W h => (pFacts_any m _ _ W (HMW.out W (HB.out.trans (h.out.mono HB.out.size)))))
              rw [HF1] at KF1
              clear HF1
              generalize hx : K.getD j 0 = x at *
              generalize hy : L.getD x 0 = y at *
              generalize factV m (y : Int) = fv at *
              clear hx hy
              generalize hS1 : setK L K (j + 1) = S1 at *
              have HS1 := Lib.hid hS1
              clear hS1
              generalize setK L K j = S0 at *
              have dx0 : decide ((x : Int) < 0) = false := decide_eq_false (by omega)
              have dxp : decide ((p : Int) ≤ (x : Int)) = false := decide_eq_false (by omega)
              have dxq : decide (p ≤ x) = false := decide_eq_false (by omega)
              have dy0 : decide ((y : Int) < 0) = false := decide_eq_false (by omega)
              have dy6 : decide ((63 : Int) < (y : Int)) = false := decide_eq_false (by omega)
              have hcL2 : ∀ W, Below w8.heap.size w8 W → W.cell? (adL.add x) = some (.int .i64 (y : Int)) := fun W h => (h.cell (by rw [block_of_add]; exact hbL)).trans hcL
              have HCL2 := Lib.hid hcL2
              have hcX : ∀ W, Below w8.heap.size w8 W → W.cell? ⟨w.heap.size, 0, none⟩ = some (.int .i64 m.n) ∧ W.cell? ⟨w.heap.size, 1, none⟩ = some (.slice A1 m.val.length c1) ∧ W.cell? ⟨w.heap.size, 2, none⟩ = some (.slice A2 m.rel.length c2) := fun W h => ⟨(HX.out.below h HX.out.lt).c0, (HX.out.below h HX.out.lt).c1, (HX.out.below h HX.out.lt).c2⟩
              have HCX := Lib.hid hcX
              have hcB : ∀ W, Below w8.heap.size w8 W → W.cell? ⟨bHXb, 0, none⟩ = some (.int .i64 (q : Int)) ∧ W.cell? ⟨bHXb, 1, none⟩ = some (.slice V1 m.val.length d1) ∧ W.cell? ⟨bHXb, 2, none⟩ = some (.slice V2 m.rel.length d2) := fun W h => ⟨(HXb.out.below h HXb.out.lt).c0, (HXb.out.below h HXb.out.lt).c1, (HXb.out.below h HXb.out.lt).c2⟩
              have HCB := Lib.hid hcB
              clear hcL2 hcX hcB hcL
              go_wp2
              clear hcK
              refine wp_region_const [.int .i64 (x : Int), .bool false, .bool false, .int .i64 (x : Int), .slice (some adL) p lca, .int .i64 (p : Int), .bool false, .bool false, .bool false, .slice (some adL) p lca, .int .i64 (x : Int), .pointer (some (adL.add x)), .int .i64 (y : Int), .bool false, .bool false, .bool false, .slice (some adL) p lca, .int .i64 (x : Int), .pointer (some (adL.add x)), .int .i64 (y : Int), .bool false, .bool false, .bool false, .agg #[.int .i64 (q : Int), .slice V1 m.val.length d1, .slice V2 m.rel.length d2], .int .i64 (j : Int), .int .i64 fv, .agg #[.int .i64 m.n, .slice A1 m.val.length c1, .slice A2 m.rel.length c2], .slice (some adL) p lca, .int .i64 (x : Int), .pointer (some (adL.add x)), .int .i64 (y : Int), .int .i64 fv, .bool false, .bool false] 79 (fun W => Below w8.heap.size w8 W) (fun W W' => Below W.heap.size W W') 34 135 rfl rfl rfl (by omega) (by kernel_rfl) (by kernel_rfl) (by kernel_rfl) (fun W => Below.refl _ W) (fun W1 W2 W3 h1 h2 => h1.trans (h2.mono h1.size)) (fun W W' h h2 => h.trans (h2.mono h.size)) HO.out.drew ?hop ?fin
              case hop =>
                refine (lt_more (lt_more (lt_more (lt_more (lt_more (lt_more (lt_more (lt_more (lt_more (lt_more (lt_more (lt_more (lt_more (lt_more (lt_more (lt_more (lt_more (lt_more (lt_more (lt_more (lt_more (lt_more (lt_more (lt_more (lt_more (lt_more (lt_more (lt_more (lt_more (lt_more (lt_more (lt_more (lt_more (lt_more (lt_none _) ?s0) ?s1) ?s2) ?s3) ?s4) ?s5) ?s6) ?s7) ?s8) ?s9) ?s10) ?s11) ?s12) ?s13) ?s14) ?s15) ?s16) ?s17) ?s18) ?s19) ?s20) ?s21) ?s22) ?s23) ?s24) ?s25) ?s26) ?s27) ?s28) ?s29) ?s30) ?s31) ?s32) ?s33)
                case s0 =>
                  intro o ho a W hS hsz hdf hfr hdep K hK
                  obtain ⟨tm, df⟩ := a
                  have hdf : df = [] := hdf
                  subst hdf
                  have ho := Option.some.inj ho
                  subst ho
                  have hsz : tm.size = 135 := hsz
                  have t16 : tm.getD 16 undef = .int .i64 (x : Int) := hfr 16 (by intro j hj; show 79 + j ≠ 16; omega)
                  clear hdep hfr
                  go_simp
                  exact hK _ W (Below.refl _ W) (fun W9 hb => rfl)
                case s1 =>
                  intro o ho a W hS hsz hdf hfr hdep K hK
                  obtain ⟨tm, df⟩ := a
                  have hdf : df = [] := hdf
                  subst hdf
                  have ho := Option.some.inj ho
                  subst ho
                  have hsz : tm.size = 135 := hsz
                  have t79 : tm.getD 79 undef = .int .i64 (x : Int) := hdep ⟨0, .data⟩ (by simp) (by rfl) (by decide) W (Below.refl _ W)
                  clear hdep hfr
                  go_simp
                  exact hK _ W (Below.refl _ W) (fun W9 hb => rfl)
                case s2 =>
                  intro o ho a W hS hsz hdf hfr hdep K hK
                  obtain ⟨tm, df⟩ := a
                  have hdf : df = [] := hdf
                  subst hdf
                  have ho := Option.some.inj ho
                  subst ho
                  have hsz : tm.size = 135 := hsz
                  have t80 : tm.getD 80 undef = .bool false := hdep ⟨1, .data⟩ (by simp) (by rfl) (by decide) W (Below.refl _ W)
                  clear hdep hfr
                  go_simp
                  exact hK _ W (Below.refl _ W) (fun W9 hb => rfl)
                case s3 =>
                  intro o ho a W hS hsz hdf hfr hdep K hK
                  obtain ⟨tm, df⟩ := a
                  have hdf : df = [] := hdf
                  subst hdf
                  have ho := Option.some.inj ho
                  subst ho
                  have hsz : tm.size = 135 := hsz
                  have t16 : tm.getD 16 undef = .int .i64 (x : Int) := hfr 16 (by intro j hj; show 79 + j ≠ 16; omega)
                  have t81 : tm.getD 81 undef = .bool false := hdep ⟨2, .guard⟩ (by simp) (by rfl) (by decide) W (Below.refl _ W)
                  have u81 : tm[81]'(by omega) = .bool false := getq t81 (by omega)
                  clear hdep hfr
                  go_simp
                  exact hK _ W (Below.refl _ W) (fun W9 hb => rfl)
                case s4 =>
                  intro o ho a W hS hsz hdf hfr hdep K hK
                  obtain ⟨tm, df⟩ := a
                  have hdf : df = [] := hdf
                  subst hdf
                  have ho := Option.some.inj ho
                  subst ho
                  have hsz : tm.size = 135 := hsz
                  have t8 : tm.getD 8 undef = .slice (some adL) p lca := hfr 8 (by intro j hj; show 79 + j ≠ 8; omega)
                  have t81 : tm.getD 81 undef = .bool false := hdep ⟨2, .guard⟩ (by simp) (by rfl) (by decide) W (Below.refl _ W)
                  have u81 : tm[81]'(by omega) = .bool false := getq t81 (by omega)
                  clear hdep hfr
                  go_simp
                  exact hK _ W (Below.refl _ W) (fun W9 hb => rfl)
                case s5 =>
                  intro o ho a W hS hsz hdf hfr hdep K hK
                  obtain ⟨tm, df⟩ := a
                  have hdf : df = [] := hdf
                  subst hdf
                  have ho := Option.some.inj ho
                  subst ho
                  have hsz : tm.size = 135 := hsz
                  have t83 : tm.getD 83 undef = .slice (some adL) p lca := hdep ⟨4, .data⟩ (by simp) (by rfl) (by decide) W (Below.refl _ W)
                  have t81 : tm.getD 81 undef = .bool false := hdep ⟨2, .guard⟩ (by simp) (by rfl) (by decide) W (Below.refl _ W)
                  have u81 : tm[81]'(by omega) = .bool false := getq t81 (by omega)
                  clear hdep hfr
                  go_simp
                  exact hK _ W (Below.refl _ W) (fun W9 hb => rfl)
                case s6 =>
                  intro o ho a W hS hsz hdf hfr hdep K hK
                  obtain ⟨tm, df⟩ := a
                  have hdf : df = [] := hdf
                  subst hdf
                  have ho := Option.some.inj ho
                  subst ho
                  have hsz : tm.size = 135 := hsz
                  have t82 : tm.getD 82 undef = .int .i64 (x : Int) := hdep ⟨3, .data⟩ (by simp) (by rfl) (by decide) W (Below.refl _ W)
                  have t84 : tm.getD 84 undef = .int .i64 (p : Int) := hdep ⟨5, .data⟩ (by simp) (by rfl) (by decide) W (Below.refl _ W)
                  have t81 : tm.getD 81 undef = .bool false := hdep ⟨2, .guard⟩ (by simp) (by rfl) (by decide) W (Below.refl _ W)
                  have u81 : tm[81]'(by omega) = .bool false := getq t81 (by omega)
                  clear hdep hfr
                  go_simp
                  exact hK _ W (Below.refl _ W) (fun W9 hb => rfl)
                case s7 =>
                  intro o ho a W hS hsz hdf hfr hdep K hK
                  obtain ⟨tm, df⟩ := a
                  have hdf : df = [] := hdf
                  subst hdf
                  have ho := Option.some.inj ho
                  subst ho
                  have hsz : tm.size = 135 := hsz
                  have t81 : tm.getD 81 undef = .bool false := hdep ⟨2, .data⟩ (by simp) (by rfl) (by decide) W (Below.refl _ W)
                  have t85 : tm.getD 85 undef = .bool false := hdep ⟨6, .data⟩ (by simp) (by rfl) (by decide) W (Below.refl _ W)
                  clear hdep hfr
                  go_simp
                  exact hK _ W (Below.refl _ W) (fun W9 hb => rfl)
                case s8 =>
                  intro o ho a W hS hsz hdf hfr hdep K hK
                  obtain ⟨tm, df⟩ := a
                  have hdf : df = [] := hdf
                  subst hdf
                  have ho := Option.some.inj ho
                  subst ho
                  have hsz : tm.size = 135 := hsz
                  have t86 : tm.getD 86 undef = .bool false := hdep ⟨7, .data⟩ (by simp) (by rfl) (by decide) W (Below.refl _ W)
                  clear hdep hfr
                  go_simp
                  exact hK _ W (Below.refl _ W) (fun W9 hb => rfl)
                case s9 =>
                  intro o ho a W hS hsz hdf hfr hdep K hK
                  obtain ⟨tm, df⟩ := a
                  have hdf : df = [] := hdf
                  subst hdf
                  have ho := Option.some.inj ho
                  subst ho
                  have hsz : tm.size = 135 := hsz
                  have t8 : tm.getD 8 undef = .slice (some adL) p lca := hfr 8 (by intro j hj; show 79 + j ≠ 8; omega)
                  have t87 : tm.getD 87 undef = .bool false := hdep ⟨8, .guard⟩ (by simp) (by rfl) (by decide) W (Below.refl _ W)
                  have u87 : tm[87]'(by omega) = .bool false := getq t87 (by omega)
                  clear hdep hfr
                  go_simp
                  exact hK _ W (Below.refl _ W) (fun W9 hb => rfl)
                case s10 =>
                  intro o ho a W hS hsz hdf hfr hdep K hK
                  obtain ⟨tm, df⟩ := a
                  have hdf : df = [] := hdf
                  subst hdf
                  have ho := Option.some.inj ho
                  subst ho
                  have hsz : tm.size = 135 := hsz
                  have t16 : tm.getD 16 undef = .int .i64 (x : Int) := hfr 16 (by intro j hj; show 79 + j ≠ 16; omega)
                  have t87 : tm.getD 87 undef = .bool false := hdep ⟨8, .guard⟩ (by simp) (by rfl) (by decide) W (Below.refl _ W)
                  have u87 : tm[87]'(by omega) = .bool false := getq t87 (by omega)
                  clear hdep hfr
                  go_simp
                  exact hK _ W (Below.refl _ W) (fun W9 hb => rfl)
                case s11 =>
                  intro o ho a W hS hsz hdf hfr hdep K hK
                  obtain ⟨tm, df⟩ := a
                  have hdf : df = [] := hdf
                  subst hdf
                  have ho := Option.some.inj ho
                  subst ho
                  have hsz : tm.size = 135 := hsz
                  have t88 : tm.getD 88 undef = .slice (some adL) p lca := hdep ⟨9, .data⟩ (by simp) (by rfl) (by decide) W (Below.refl _ W)
                  have t89 : tm.getD 89 undef = .int .i64 (x : Int) := hdep ⟨10, .data⟩ (by simp) (by rfl) (by decide) W (Below.refl _ W)
                  have t87 : tm.getD 87 undef = .bool false := hdep ⟨8, .guard⟩ (by simp) (by rfl) (by decide) W (Below.refl _ W)
                  have u87 : tm[87]'(by omega) = .bool false := getq t87 (by omega)
                  clear hdep hfr
                  go_simp
                  exact hK _ W (Below.refl _ W) (fun W9 hb => rfl)
                case s12 =>
                  intro o ho a W hS hsz hdf hfr hdep K hK
                  obtain ⟨tm, df⟩ := a
                  have hdf : df = [] := hdf
                  subst hdf
                  have ho := Option.some.inj ho
                  subst ho
                  have hsz : tm.size = 135 := hsz
                  have t90 : tm.getD 90 undef = .pointer (some (adL.add x)) := hdep ⟨11, .data⟩ (by simp) (by rfl) (by decide) W (Below.refl _ W)
                  have t87 : tm.getD 87 undef = .bool false := hdep ⟨8, .guard⟩ (by simp) (by rfl) (by decide) W (Below.refl _ W)
                  have u87 : tm[87]'(by omega) = .bool false := getq t87 (by omega)
                  have cz := HCL2.out W hS
                  clear hdep hfr
                  go_simp
                  exact hK _ W (Below.refl _ W) (fun W9 hb => rfl)
                case s13 =>
                  intro o ho a W hS hsz hdf hfr hdep K hK
                  obtain ⟨tm, df⟩ := a
                  have hdf : df = [] := hdf
                  subst hdf
                  have ho := Option.some.inj ho
                  subst ho
                  have hsz : tm.size = 135 := hsz
                  have t91 : tm.getD 91 undef = .int .i64 (y : Int) := hdep ⟨12, .data⟩ (by simp) (by rfl) (by decide) W (Below.refl _ W)
                  have t87 : tm.getD 87 undef = .bool false := hdep ⟨8, .guard⟩ (by simp) (by rfl) (by decide) W (Below.refl _ W)
                  have u87 : tm[87]'(by omega) = .bool false := getq t87 (by omega)
                  clear hdep hfr
                  go_simp
                  exact hK _ W (Below.refl _ W) (fun W9 hb => rfl)
                case s14 =>
                  intro o ho a W hS hsz hdf hfr hdep K hK
                  obtain ⟨tm, df⟩ := a
                  have hdf : df = [] := hdf
                  subst hdf
                  have ho := Option.some.inj ho
                  subst ho
                  have hsz : tm.size = 135 := hsz
                  have t87 : tm.getD 87 undef = .bool false := hdep ⟨8, .data⟩ (by simp) (by rfl) (by decide) W (Below.refl _ W)
                  have t92 : tm.getD 92 undef = .bool false := hdep ⟨13, .data⟩ (by simp) (by rfl) (by decide) W (Below.refl _ W)
                  clear hdep hfr
                  go_simp
                  exact hK _ W (Below.refl _ W) (fun W9 hb => rfl)
                case s15 =>
                  intro o ho a W hS hsz hdf hfr hdep K hK
                  obtain ⟨tm, df⟩ := a
                  have hdf : df = [] := hdf
                  subst hdf
                  have ho := Option.some.inj ho
                  subst ho
                  have hsz : tm.size = 135 := hsz
                  have t93 : tm.getD 93 undef = .bool false := hdep ⟨14, .data⟩ (by simp) (by rfl) (by decide) W (Below.refl _ W)
                  clear hdep hfr
                  go_simp
                  exact hK _ W (Below.refl _ W) (fun W9 hb => rfl)
                case s16 =>
                  intro o ho a W hS hsz hdf hfr hdep K hK
                  obtain ⟨tm, df⟩ := a
                  have hdf : df = [] := hdf
                  subst hdf
                  have ho := Option.some.inj ho
                  subst ho
                  have hsz : tm.size = 135 := hsz
                  have t8 : tm.getD 8 undef = .slice (some adL) p lca := hfr 8 (by intro j hj; show 79 + j ≠ 8; omega)
                  have t94 : tm.getD 94 undef = .bool false := hdep ⟨15, .guard⟩ (by simp) (by rfl) (by decide) W (Below.refl _ W)
                  have u94 : tm[94]'(by omega) = .bool false := getq t94 (by omega)
                  clear hdep hfr
                  go_simp
                  exact hK _ W (Below.refl _ W) (fun W9 hb => rfl)
                case s17 =>
                  intro o ho a W hS hsz hdf hfr hdep K hK
                  obtain ⟨tm, df⟩ := a
                  have hdf : df = [] := hdf
                  subst hdf
                  have ho := Option.some.inj ho
                  subst ho
                  have hsz : tm.size = 135 := hsz
                  have t16 : tm.getD 16 undef = .int .i64 (x : Int) := hfr 16 (by intro j hj; show 79 + j ≠ 16; omega)
                  have t94 : tm.getD 94 undef = .bool false := hdep ⟨15, .guard⟩ (by simp) (by rfl) (by decide) W (Below.refl _ W)
                  have u94 : tm[94]'(by omega) = .bool false := getq t94 (by omega)
                  clear hdep hfr
                  go_simp
                  exact hK _ W (Below.refl _ W) (fun W9 hb => rfl)
                case s18 =>
                  intro o ho a W hS hsz hdf hfr hdep K hK
                  obtain ⟨tm, df⟩ := a
                  have hdf : df = [] := hdf
                  subst hdf
                  have ho := Option.some.inj ho
                  subst ho
                  have hsz : tm.size = 135 := hsz
                  have t95 : tm.getD 95 undef = .slice (some adL) p lca := hdep ⟨16, .data⟩ (by simp) (by rfl) (by decide) W (Below.refl _ W)
                  have t96 : tm.getD 96 undef = .int .i64 (x : Int) := hdep ⟨17, .data⟩ (by simp) (by rfl) (by decide) W (Below.refl _ W)
                  have t94 : tm.getD 94 undef = .bool false := hdep ⟨15, .guard⟩ (by simp) (by rfl) (by decide) W (Below.refl _ W)
                  have u94 : tm[94]'(by omega) = .bool false := getq t94 (by omega)
                  clear hdep hfr
                  go_simp
                  exact hK _ W (Below.refl _ W) (fun W9 hb => rfl)
                case s19 =>
                  intro o ho a W hS hsz hdf hfr hdep K hK
                  obtain ⟨tm, df⟩ := a
                  have hdf : df = [] := hdf
                  subst hdf
                  have ho := Option.some.inj ho
                  subst ho
                  have hsz : tm.size = 135 := hsz
                  have t97 : tm.getD 97 undef = .pointer (some (adL.add x)) := hdep ⟨18, .data⟩ (by simp) (by rfl) (by decide) W (Below.refl _ W)
                  have t94 : tm.getD 94 undef = .bool false := hdep ⟨15, .guard⟩ (by simp) (by rfl) (by decide) W (Below.refl _ W)
                  have u94 : tm[94]'(by omega) = .bool false := getq t94 (by omega)
                  have cz := HCL2.out W hS
                  clear hdep hfr
                  go_simp
                  exact hK _ W (Below.refl _ W) (fun W9 hb => rfl)
                case s20 =>
                  intro o ho a W hS hsz hdf hfr hdep K hK
                  obtain ⟨tm, df⟩ := a
                  have hdf : df = [] := hdf
                  subst hdf
                  have ho := Option.some.inj ho
                  subst ho
                  have hsz : tm.size = 135 := hsz
                  have t98 : tm.getD 98 undef = .int .i64 (y : Int) := hdep ⟨19, .data⟩ (by simp) (by rfl) (by decide) W (Below.refl _ W)
                  have t94 : tm.getD 94 undef = .bool false := hdep ⟨15, .guard⟩ (by simp) (by rfl) (by decide) W (Below.refl _ W)
                  have u94 : tm[94]'(by omega) = .bool false := getq t94 (by omega)
                  clear hdep hfr
                  go_simp
                  exact hK _ W (Below.refl _ W) (fun W9 hb => rfl)
                case s21 =>
                  intro o ho a W hS hsz hdf hfr hdep K hK
                  obtain ⟨tm, df⟩ := a
                  have hdf : df = [] := hdf
                  subst hdf
                  have ho := Option.some.inj ho
                  subst ho
                  have hsz : tm.size = 135 := hsz
                  have t94 : tm.getD 94 undef = .bool false := hdep ⟨15, .data⟩ (by simp) (by rfl) (by decide) W (Below.refl _ W)
                  have t99 : tm.getD 99 undef = .bool false := hdep ⟨20, .data⟩ (by simp) (by rfl) (by decide) W (Below.refl _ W)
                  clear hdep hfr
                  go_simp
                  exact hK _ W (Below.refl _ W) (fun W9 hb => rfl)
                case s22 =>
                  intro o ho a W hS hsz hdf hfr hdep K hK
                  obtain ⟨tm, df⟩ := a
                  have hdf : df = [] := hdf
                  subst hdf
                  have ho := Option.some.inj ho
                  subst ho
                  have hsz : tm.size = 135 := hsz
                  have t100 : tm.getD 100 undef = .bool false := hdep ⟨21, .data⟩ (by simp) (by rfl) (by decide) W (Below.refl _ W)
                  clear hdep hfr
                  go_simp
                  exact hK _ W (Below.refl _ W) (fun W9 hb => rfl)
                case s23 =>
                  intro o ho a W hS hsz hdf hfr hdep K hK
                  obtain ⟨tm, df⟩ := a
                  have hdf : df = [] := hdf
                  subst hdf
                  have ho := Option.some.inj ho
                  subst ho
                  have hsz : tm.size = 135 := hsz
                  have t11 : tm.getD 11 undef = .pointer (some ⟨bHXb, 0, none⟩) := hfr 11 (by intro j hj; show 79 + j ≠ 11; omega)
                  have t101 : tm.getD 101 undef = .bool false := hdep ⟨22, .guard⟩ (by simp) (by rfl) (by decide) W (Below.refl _ W)
                  have u101 : tm[101]'(by omega) = .bool false := getq t101 (by omega)
                  obtain ⟨cz0, cz1, cz2⟩ := HCB.out W hS
                  clear hdep hfr
                  go_simp
                  exact hK _ W (Below.refl _ W) (fun W9 hb => rfl)
                case s24 =>
                  intro o ho a W hS hsz hdf hfr hdep K hK
                  obtain ⟨tm, df⟩ := a
                  have hdf : df = [] := hdf
                  subst hdf
                  have ho := Option.some.inj ho
                  subst ho
                  have hsz : tm.size = 135 := hsz
                  have t15 : tm.getD 15 undef = .int .i64 (j : Int) := hfr 15 (by intro j hj; show 79 + j ≠ 15; omega)
                  have t101 : tm.getD 101 undef = .bool false := hdep ⟨22, .guard⟩ (by simp) (by rfl) (by decide) W (Below.refl _ W)
                  have u101 : tm[101]'(by omega) = .bool false := getq t101 (by omega)
                  clear hdep hfr
                  go_simp
                  exact hK _ W (Below.refl _ W) (fun W9 hb => rfl)
                case s25 =>
                  intro o ho a W hS hsz hdf hfr hdep K hK
                  obtain ⟨tm, df⟩ := a
                  have hdf : df = [] := hdf
                  subst hdf
                  have ho := Option.some.inj ho
                  subst ho
                  have hsz : tm.size = 135 := hsz
                  have t102 : tm.getD 102 undef = .agg #[.int .i64 (q : Int), .slice V1 m.val.length d1, .slice V2 m.rel.length d2] := hdep ⟨23, .data⟩ (by simp) (by rfl) (by decide) W (Below.refl _ W)
                  have t103 : tm.getD 103 undef = .int .i64 (j : Int) := hdep ⟨24, .data⟩ (by simp) (by rfl) (by decide) W (Below.refl _ W)
                  have t101 : tm.getD 101 undef = .bool false := hdep ⟨22, .guard⟩ (by simp) (by rfl) (by decide) W (Below.refl _ W)
                  have u101 : tm[101]'(by omega) = .bool false := getq t101 (by omega)
                  clear hdep hfr
                  go_simp
                  refine (KF1.out W (Lib.hid hS)).mono ?_
                  rintro e W9 ⟨rfl, hb⟩
                  exact hK _ W9 hb (fun W8 hc => rfl)
                case s26 =>
                  intro o ho a W hS hsz hdf hfr hdep K hK
                  obtain ⟨tm, df⟩ := a
                  have hdf : df = [] := hdf
                  subst hdf
                  have ho := Option.some.inj ho
                  subst ho
                  have hsz : tm.size = 135 := hsz
                  have t3 : tm.getD 3 undef = .pointer (some ⟨w.heap.size, 0, none⟩) := hfr 3 (by intro j hj; show 79 + j ≠ 3; omega)
                  have t101 : tm.getD 101 undef = .bool false := hdep ⟨22, .guard⟩ (by simp) (by rfl) (by decide) W (Below.refl _ W)
                  have u101 : tm[101]'(by omega) = .bool false := getq t101 (by omega)
                  obtain ⟨cz0, cz1, cz2⟩ := HCX.out W hS
                  clear hdep hfr
                  go_simp
                  exact hK _ W (Below.refl _ W) (fun W9 hb => rfl)
                case s27 =>
                  intro o ho a W hS hsz hdf hfr hdep K hK
                  obtain ⟨tm, df⟩ := a
                  have hdf : df = [] := hdf
                  subst hdf
                  have ho := Option.some.inj ho
                  subst ho
                  have hsz : tm.size = 135 := hsz
                  have t8 : tm.getD 8 undef = .slice (some adL) p lca := hfr 8 (by intro j hj; show 79 + j ≠ 8; omega)
                  have t101 : tm.getD 101 undef = .bool false := hdep ⟨22, .guard⟩ (by simp) (by rfl) (by decide) W (Below.refl _ W)
                  have u101 : tm[101]'(by omega) = .bool false := getq t101 (by omega)
                  clear hdep hfr
                  go_simp
                  exact hK _ W (Below.refl _ W) (fun W9 hb => rfl)
                case s28 =>
                  intro o ho a W hS hsz hdf hfr hdep K hK
                  obtain ⟨tm, df⟩ := a
                  have hdf : df = [] := hdf
                  subst hdf
                  have ho := Option.some.inj ho
                  subst ho
                  have hsz : tm.size = 135 := hsz
                  have t16 : tm.getD 16 undef = .int .i64 (x : Int) := hfr 16 (by intro j hj; show 79 + j ≠ 16; omega)
                  have t101 : tm.getD 101 undef = .bool false := hdep ⟨22, .guard⟩ (by simp) (by rfl) (by decide) W (Below.refl _ W)
                  have u101 : tm[101]'(by omega) = .bool false := getq t101 (by omega)
                  clear hdep hfr
                  go_simp
                  exact hK _ W (Below.refl _ W) (fun W9 hb => rfl)
                case s29 =>
                  intro o ho a W hS hsz hdf hfr hdep K hK
                  obtain ⟨tm, df⟩ := a
                  have hdf : df = [] := hdf
                  subst hdf
                  have ho := Option.some.inj ho
                  subst ho
                  have hsz : tm.size = 135 := hsz
                  have t106 : tm.getD 106 undef = .slice (some adL) p lca := hdep ⟨27, .data⟩ (by simp) (by rfl) (by decide) W (Below.refl _ W)
                  have t107 : tm.getD 107 undef = .int .i64 (x : Int) := hdep ⟨28, .data⟩ (by simp) (by rfl) (by decide) W (Below.refl _ W)
                  have t101 : tm.getD 101 undef = .bool false := hdep ⟨22, .guard⟩ (by simp) (by rfl) (by decide) W (Below.refl _ W)
                  have u101 : tm[101]'(by omega) = .bool false := getq t101 (by omega)
                  clear hdep hfr
                  go_simp
                  exact hK _ W (Below.refl _ W) (fun W9 hb => rfl)
                case s30 =>
                  intro o ho a W hS hsz hdf hfr hdep K hK
                  obtain ⟨tm, df⟩ := a
                  have hdf : df = [] := hdf
                  subst hdf
                  have ho := Option.some.inj ho
                  subst ho
                  have hsz : tm.size = 135 := hsz
                  have t108 : tm.getD 108 undef = .pointer (some (adL.add x)) := hdep ⟨29, .data⟩ (by simp) (by rfl) (by decide) W (Below.refl _ W)
                  have t101 : tm.getD 101 undef = .bool false := hdep ⟨22, .guard⟩ (by simp) (by rfl) (by decide) W (Below.refl _ W)
                  have u101 : tm[101]'(by omega) = .bool false := getq t101 (by omega)
                  have cz := HCL2.out W hS
                  clear hdep hfr
                  go_simp
                  exact hK _ W (Below.refl _ W) (fun W9 hb => rfl)
                case s31 =>
                  intro o ho a W hS hsz hdf hfr hdep K hK
                  obtain ⟨tm, df⟩ := a
                  have hdf : df = [] := hdf
                  subst hdf
                  have ho := Option.some.inj ho
                  subst ho
                  have hsz : tm.size = 135 := hsz
                  have t105 : tm.getD 105 undef = .agg #[.int .i64 m.n, .slice A1 m.val.length c1, .slice A2 m.rel.length c2] := hdep ⟨26, .data⟩ (by simp) (by rfl) (by decide) W (Below.refl _ W)
                  have t109 : tm.getD 109 undef = .int .i64 (y : Int) := hdep ⟨30, .data⟩ (by simp) (by rfl) (by decide) W (Below.refl _ W)
                  have t101 : tm.getD 101 undef = .bool false := hdep ⟨22, .guard⟩ (by simp) (by rfl) (by decide) W (Below.refl _ W)
                  have u101 : tm[101]'(by omega) = .bool false := getq t101 (by omega)
                  clear hdep hfr
                  go_simp
                  refine (KF2.out W (Lib.hid hS)).mono ?_
                  rintro e W9 ⟨rfl, hb⟩
                  exact hK _ W9 hb (fun W8 hc => rfl)
                case s32 =>
                  intro o ho a W hS hsz hdf hfr hdep K hK
                  obtain ⟨tm, df⟩ := a
                  have hdf : df = [] := hdf
                  subst hdf
                  have ho := Option.some.inj ho
                  subst ho
                  have hsz : tm.size = 135 := hsz
                  have t104 : tm.getD 104 undef = .int .i64 fv := hdep ⟨25, .data⟩ (by simp) (by rfl) (by decide) W (Below.refl _ W)
                  have t110 : tm.getD 110 undef = .int .i64 fv := hdep ⟨31, .data⟩ (by simp) (by rfl) (by decide) W (Below.refl _ W)
                  have t101 : tm.getD 101 undef = .bool false := hdep ⟨22, .guard⟩ (by simp) (by rfl) (by decide) W (Below.refl _ W)
                  have u101 : tm[101]'(by omega) = .bool false := getq t101 (by omega)
                  clear hdep hfr
                  go_simp
                  exact hK _ W (Below.refl _ W) (fun W9 hb => rfl)
                case s33 =>
                  intro o ho a W hS hsz hdf hfr hdep K hK
                  obtain ⟨tm, df⟩ := a
                  have hdf : df = [] := hdf
                  subst hdf
                  have ho := Option.some.inj ho
                  subst ho
                  have hsz : tm.size = 135 := hsz
                  have t101 : tm.getD 101 undef = .bool false := hdep ⟨22, .data⟩ (by simp) (by rfl) (by decide) W (Below.refl _ W)
                  have t111 : tm.getD 111 undef = .bool false := hdep ⟨32, .data⟩ (by simp) (by rfl) (by decide) W (Below.refl _ W)
                  clear hdep hfr
                  go_simp
                  exact hK _ W (Below.refl _ W) (fun W9 hb => rfl)
              case fin =>
                intro W hS
                simp only [fillT]
                have cz := HCL2.out W hS
                go_simp
                go_wp2
                go_roundw
                case rel => exact ⟨j + 1, by omega, by go_num, by rw [HS1.out], Lib.hid hS⟩
                case measure => first | (simp [intOf]; done) | (simp [intOf]; omega)
            · obtain rfl : q = j := by omega
              clear hlt
              have hb := HO.out
              skip
              replace HB := Lib.hid (upB HB.out (Nat.le_refl _) hb)
              replace HX := Lib.hid (upX HX.out hb)
              replace HXb := Lib.hid (upX HXb.out hb)
              replace HMB := Lib.hid (upM HMB.out hb)
              clear hb
              have HX_0 := HX.out.c0
              have HX_1 := HX.out.c1
              have HX_2 := HX.out.c2
              have HX_l := HX.out.lt
              go_wp2_with fail
              clear HX_0 HX_1 HX_2 HX_l
              refine (HRC.out _ HB.out).mono ?_
              rintro e w9 ⟨vc, Lc, nc, lcc, rfl, hm, hb⟩
              replace HB := Lib.hid (upB HB.out (Nat.le_refl _) hb)
              replace HX := Lib.hid (upX HX.out hb)
              replace HXb := Lib.hid (upX HXb.out hb)
              replace HMB := Lib.hid (upM HMB.out hb)
              clear hb
              have hm := hm.self
              obtain ⟨X1, Xc1, X2, Xc2, rfl⟩ := hm.shape (n := (q : Int)) (k := m.val.length) (q := m.rel.length) HN4.out HN5.out HN6.out
              have HMC := Lib.hid hm
              clear hm
              have HXb_0 := HXb.out.c0
              have HXb_1 := HXb.out.c1
              have HXb_2 := HXb.out.c2
              have HXb_l := HXb.out.lt
              go_wp2_with fail
              clear HXb_0 HXb_1 HXb_2 HXb_l
              have hb : Below w9.heap.size w9 (w9.alloc (.cells #[.int .i64 ((q : Int)), .slice X1 m.val.length Xc1, .slice X2 m.rel.length Xc2] 25)) := (Below.refl _ _).alloc (Nat.le_refl _) _
              have HXc := Lib.hid (MBox.made w9 ((q : Int)) (.slice X1 m.val.length Xc1) (.slice X2 m.rel.length Xc2))
              generalize hW : w9.alloc (.cells #[.int .i64 ((q : Int)), .slice X1 m.val.length Xc1, .slice X2 m.rel.length Xc2] 25) = w10 at *
              clear hW
              replace HB := Lib.hid (upB HB.out (Nat.le_refl _) hb)
              replace HX := Lib.hid (upX HX.out hb)
              replace HXb := Lib.hid (upX HXb.out hb)
              replace HMB := Lib.hid (upM HMB.out hb)
              replace HMC := Lib.hid (upM HMC.out hb)
              clear hb
              generalize w9.heap.size = bHXc at *
              refine (rSame_any bm bm _ _ w10 HMB.out HMC.out).mono ?_
              rintro e w11 ⟨rfl, hb⟩
              replace HB := Lib.hid (upB HB.out (Nat.le_refl _) hb)
              replace HX := Lib.hid (upX HX.out hb)
              replace HXb := Lib.hid (upX HXb.out hb)
              replace HMB := Lib.hid (upM HMB.out hb)
              replace HMC := Lib.hid (upM HMC.out hb)
              replace HXc := Lib.hid (upX HXc.out hb)
              clear hb
              rw [show decide (bm = bm) = true from decide_eq_true rfl]
              go_wp2
              go_ret
              exact ⟨rfl, HB.out⟩
set_option maxRecDepth 100000 in
theorem contract (H : Type) (enc : TypeId × Value → H) (W : World) (base : Nat) (args : Array Value) (ds gs : List (DataW H)) (before : List MemPlace)
    (hval : ∀ (j : Nat) t v, Tryd.f7.params[j]? = some t → args[j]? = some v → Value.okWide Tryd.prog W .any base t v)
    (hW : DataW.Whole enc Tryd.prog Tryd.f7.params.toList Rows.modelTwiceSpec.vars false W args.toList ds gs before) (hE : Tab W) :
    Calls Tryd.prog 7 args W fun e W' => ∃ v, e = .returned v ∧ Rows.modelTwiceSpec.post enc Tryd.prog Tryd.f7 false true false false W args v W' := by
  have hW' := hW
  obtain ⟨p, q, hA0, hV, rfl, hfz, hnd⟩ := hW
  have hA : DataW.TrodAll enc Tryd.prog W 0 (fun _ => true) true Tryd.f7.params.toList args.toList ds p := hA0
  rw [Tryd.params7] at hA hval
  obtain ⟨v0, vs0, d0, ds0, p0, q0, hargs, rfl, rfl, h0, r0⟩ := trodAll_cons hA
  obtain ⟨v1, vs1, d1, ds1, p1, q1, rfl, rfl, rfl, h1, r1⟩ := trodAll_cons r0
  obtain ⟨v2, vs2, d2, ds2, p2, q2, rfl, rfl, rfl, h2, r2⟩ := trodAll_cons r1
  obtain ⟨rfl, rfl, rfl⟩ := trodAll_nil r2
  obtain rfl : args = #[v0, v1, v2] := by cases args; simp_all
  obtain ⟨rfl, rfl⟩ := trodVars_none hV
  obtain ⟨m0, w0⟩ := open_mo (hval 0 25 v0 rfl rfl) h0
  have k0 := h0
  have lt0 : ∀ x ∈ p0, x.block < W.heap.size := by obtain ⟨m, hm⟩ := k0; exact DataW.trod_lt m _ _ _ hm
  obtain ⟨g1, rfl, rfl, rfl, w1⟩ := open_int Tryd.underlying31 (hval 1 31 v1 rfl rfl) h1
  obtain ⟨g1, rfl, hu1⟩ : ∃ n : Nat, g1 = (n : Int) ∧ n < 18446744073709551616 := by have hz := w1; have q1 : IntKind.u64.min = 0 := rfl; have q2 : IntKind.u64.max = 18446744073709551615 := rfl; simp [Lit.wf] at hz; exact ⟨g1.toNat, by omega, by omega⟩
  obtain ⟨g2, rfl, rfl, rfl, w2⟩ := open_int Tryd.underlying31 (hval 2 31 v2 rfl rfl) h2
  obtain ⟨g2, rfl, hu2⟩ : ∃ n : Nat, g2 = (n : Int) ∧ n < 18446744073709551616 := by have hz := w2; have q1 : IntKind.u64.min = 0 := rfl; have q2 : IntKind.u64.max = 18446744073709551615 := rfl; simp [Lit.wf] at hz; exact ⟨g2.toNat, by omega, by omega⟩
  clear hA0
  simp only [List.append_nil] at hW'
  have hwalk := walk m0 _ g1 g2 W w0 hu1 hu2 hE
  refine hwalk.mono fun e W' ⟨he, hg⟩ => ?_
  subst he
  exact ⟨_, rfl, _, _, _, [], _, [], hW', trodAll_mk1 (shut_bool Tryd.underlying4 _), (trodAll_cons_mk (Below.trod laidOut (by kernel_rfl) (of_decide_eq_true (by kernel_rfl)) k0 hg lt0) (trodAll_cons_mk (shut_int Tryd.underlying31 w1) (trodAll_cons_mk (shut_int Tryd.underlying31 w2) trodAll_mk0))), rfl, hg.frame _, fun h => by cases h⟩
theorem reads (os : Os) {H : Type} (enc : TypeId × Value → H) : ∃ places, DataW.whole enc Tryd.prog ((laidW os).forCall (fun _ _ => 0) ⟨#[], #[.agg #[.int .i64 0, .slice none 0 0, .slice none 0 0], .int .u64 0, .int .u64 0], []⟩).memory Tryd.f7.params.toList Rows.modelTwiceSpec.vars false #[(.agg #[.int .i64 0, .slice none 0 0, .slice none 0 0] : Value), (.int .u64 0 : Value), (.int .u64 0 : Value)].toList 8 = some ([.agg [.lit (.int .i64 0), .nil, .nil], .lit (.int .u64 0), .lit (.int .u64 0)], [], places) :=
  ⟨[], by kernel_rfl⟩
set_option maxRecDepth 100000 in
theorem lifted (os : Os) (started : os.Started) (H : Type) (enc : TypeId × Value → H) (F : Stop.Interp) :
    ReturnsInHanded {} Tryd.checked os 7 .any ((OpenSpec.ofChange Rows.modelTwiceSpec).preRow enc Tryd.prog Tryd.f7 Rows.modelTwiceRow.domain false Rows.modelTwiceRow.laid) (((OpenSpec.ofChange Rows.modelTwiceSpec).at F).post enc Tryd.prog Tryd.f7 false true false false) := by
  obtain ⟨places, hx⟩ := reads os enc
  refine returnsInHanded_of_row (C := Tryd.checked) (s := OpenSpec.ofChange Rows.modelTwiceSpec) own started (by kernel_rfl) Tryd.func7
    (witness_row_atRef (enc := enc) (C := Tryd.checked) false (laidW os) #[.agg #[.int .i64 0, .slice none 0 0, .slice none 0 0], .int .u64 0, .int .u64 0] (laidW_os os) (vars_ok os _) (heap_ok os _) (by kernel_rfl)
      (OpenSpec.preRow_of_cond 8 hx (by kernel_rfl) (fun k hk => by cases hk) (by kernel_rfl) (laid_met os _))) ?_
  intro W base args ds gs before hval hW _ _ _ hL hsh _
  exact contract H enc W base args ds gs before hval hW (env_of hL)
theorem said : Rows.ModelTwiceSaid :=
  OpenClaim.holds_of_cond 7 Tryd.f7 rfl rfl rfl rfl rfl rfl rfl ⟨rfl, rfl, rfl, rfl, rfl⟩ rfl rfl rfl rfl rfl (by kernel_rfl) Tryd.func7 (by kernel_rfl)
    (of_decide_eq_true (by kernel_rfl)) (by unfold Func.isWrapper; first | (rw [if_pos (by decide +kernel)]; kernel_rfl) | (rw [if_neg (by decide +kernel)]; exact ⟨rfl, rfl⟩))
    (fun os started H enc _ F => by rw [OpenClaim.pre_eq_preRow]; exact lifted os started H enc F)
theorem plain (f : FuncId) (fn : Func) (hf : Tryd.pinned.checked.prog.funcNamed "witting/wittinglaw13.ModelTwice" = some f) (hfn : Tryd.pinned.checked.prog.funcs[f]? = some fn) :
    false = Tryd.pinned.checked.prog.looks [] ∧ ∀ (j : Nat) t, fn.params[j]? = some t → Tryd.pinned.checked.prog.wantsStandIn t = false := by
  obtain rfl : f = 7 := Option.some.inj ((show Tryd.prog.funcNamed "witting/wittinglaw13.ModelTwice" = some 7 by kernel_rfl).symm.trans hf) |>.symm
  obtain rfl : fn = Tryd.f7 := (Option.some.inj (Tryd.func7.symm.trans hfn)).symm
  refine ⟨no_looks, fun j t ht => ?_⟩
  rw [Tryd.params7] at ht
  have hm : t ∈ [25, 31, 31] := by simpa using Array.mem_of_getElem? ht
  have hall : ([25, 31, 31].all fun u => !Tryd.prog.wantsStandIn u) = true := by kernel_rfl
  exact (show Tryd.prog.wantsStandIn t = false by simpa using List.all_eq_true.1 hall t hm)
theorem card : Rows.ModelTwiceCardSaid :=
  Claim7.holds_tied_plain_at .later [] _ _ _ _ said (fun _ h => by cases h) (by kernel_rfl) (fun _ h => by cases h) modelTwice_row_tie rfl ⟨rfl, rfl⟩ (by kernel_rfl) rfl plain (by kernel_rfl)
#print axioms card
end Go.Proofs.YtofclgapgjcflaaDoor.modelTwice
