/- Layer 24: AgreementCannot. -/
import Derived.Test.YtfbgabcdeecpoaaDoorNMu
namespace Go.Proofs.YtfbgabcdeecpoaaDoor.agreementCannot
open Go.ChangeShapes Go.WideShapes Go.ChangeAt Go.RowKit Go.Proofs.YtfbgabcdeecpoaaDoor Go.Proofs.YtfbgabcdeecpoaaDoor.agr Go.Proofs.Ws
open Go.ChangeMaps (open_string shut_string)
set_option maxRecDepth 100000
set_option maxHeartbeats 8000000 in
theorem walk (P : Pri) (v : Value) (x : Int) (s : Nat) (w : World) (hM : PrR w w.heap.size v P) (hs : s < 18446744073709551616) (hE : EnvW w) :
    Calls Tryd.prog 8 #[v, .int .i64 x, .int .u64 (s : Int)] w fun e w' => e = .returned (.bool true) ∧ Below w.heap.size w w' := by
  have HFW := Lib.hid (fun (u : Value) (x : Int) (W : World) (h : PrR W W.heap.size u P) => rFew_any P u x W h)
  have HAW := Lib.hid (fun (W : World) (hb : Below w.heap.size w W) => awake_any W (hE.below hb).1 (hE.below hb).2)
  have HCK := Lib.hid (fun (u : Value) (W : World) (h : PrR W W.heap.size u P) => aCheck_any P u W h)
  have HCM := Lib.hid (fun (u : Value) (W : World) (hb : Below w.heap.size w W) (h : PrR W W.heap.size u P) => aCommon_any P x u W h (hE.below hb).2)
  have HAG : Hid (∀ (u : Value) (W : World), Below w.heap.size w W → PrR W W.heap.size u P → Calls Tryd.prog 26 #[u, .int .i64 x, .int .u64 (s : Int)] W fun e w' => e = .returned (.tuple #[.bool (agV P x s), .int .i64 (agE P x s)]) ∧ Below W.heap.size W w') := Lib.hid (fun u W hb h => (aAgree_any P u x s W h hs (hE.below hb).1))
  have HPS : Hid (∀ (a : Nat) (u : Value) (W : World), Below w.heap.size w W → PrR W W.heap.size u P → Calls Tryd.prog 24 #[u, .int .i64 (a : Int), .int .u64 (s : Int)] W (GivesLF (postsL P a s) (postsL P a s).length (postsE P a s) W)) := Lib.hid (fun a u W hb h => (aPostsE_any P u a s W h hs (hE.below hb).1))
  obtain ⟨A1, c1, A2, c2, rfl, hv, hr⟩ := hM.ex
  have HB0 : Hid (Below w.heap.size w (w.alloc (.cells #[.slice A1 P.wt.length c1, .slice A2 P.cells.length c2] 25))) := Lib.hid ((Below.refl _ w).alloc (Nat.le_refl _) _)
  have X0 := Lib.hid (BoxP.made hM)
  clear hM hv hr hE hs
  by_cases hck : chkP P = 0
  case neg =>
    have hne : (chkP P != 0) = true := by rw [bne_iff_ne]; exact hck
    clear HCM HAG HPS
    generalize chkP P = E at *
    generalize P.wt.length = n at *
    generalize P.cells.length = m at *
    go_enter Tryd.func8, Tryd.ntmps8
    have x0_0 := X0.out.1.c0
    have x0_1 := X0.out.1.c1
    go_wp2_with fail
    clear x0_0 x0_1
    refine (HFW.out _ 20 _ X0.out.2).mono ?_
    rintro e w1 ⟨b, rfl, hb⟩
    have HB1 := Lib.hid (belowNext HB0.out hb)
    have hX0 := X0.out.step hb
    clear X0
    have X0 := Lib.hid hX0
    clear hX0
    clear HB0
    clear hb
    cases b
    case false =>
      go_wp2_with fail
      refine (HAW.out _ HB1.out).mono ?_
      rintro e w2 ⟨rfl, hb⟩
      have HB2 := Lib.hid (belowNext HB1.out hb)
      have hX0 := X0.out.step hb
      clear X0
      have X0 := Lib.hid hX0
      clear hX0
      clear HB1
      clear hb
      go_wp2
      go_ret
      exact ⟨rfl, HB2.out⟩
    case true =>
      have x0_0 := X0.out.1.c0
      have x0_1 := X0.out.1.c1
      go_wp2_with fail
      clear x0_0 x0_1
      refine (HCK.out _ _ X0.out.2).mono ?_
      rintro e w2 ⟨rfl, hb⟩
      have HB2 := Lib.hid (belowNext HB1.out hb)
      have hX0 := X0.out.step hb
      clear X0
      have X0 := Lib.hid hX0
      clear hX0
      clear HB1
      clear hb
      go_wp2_with fail
      refine (HAW.out _ HB2.out).mono ?_
      rintro e w9 ⟨rfl, hb⟩
      have HB3 := Lib.hid (belowNext HB2.out hb)
      have hX0 := X0.out.step hb
      clear X0
      have X0 := Lib.hid hX0
      clear hX0
      clear HB2
      clear hb
      go_wp2
      go_ret
      exact ⟨rfl, HB3.out⟩
  rw [hck] at HCK
  have hok := chkP_ok hck
  by_cases hco : comE P x = 0
  case neg =>
    have hne : (comE P x != 0) = true := by rw [bne_iff_ne]; exact hco
    have HCM2 : Hid (∀ (u : Value) (W : World), Below w.heap.size w W → PrR W W.heap.size u P → Calls Tryd.prog 15 #[u, .int .i64 x] W fun e w' => ∃ C : Nat, e = .returned (.tuple #[.int .u64 (C : Int), .int .i64 (comE P x)]) ∧ Below W.heap.size W w') := Lib.hid (fun u W hb h => (HCM.out u W hb h).mono fun e w' ⟨C, h1, _, h3⟩ => ⟨C, h1, h3⟩)
    clear HCM HPS hck hok
    generalize comE P x = E at *
    generalize agV P x s = AG at *
    generalize agE P x s = E2 at *
    generalize P.wt.length = n at *
    generalize P.cells.length = m at *
    go_enter Tryd.func8, Tryd.ntmps8
    have x0_0 := X0.out.1.c0
    have x0_1 := X0.out.1.c1
    go_wp2_with fail
    clear x0_0 x0_1
    refine (HFW.out _ 20 _ X0.out.2).mono ?_
    rintro e w1 ⟨b, rfl, hb⟩
    have HB1 := Lib.hid (belowNext HB0.out hb)
    have hX0 := X0.out.step hb
    clear X0
    have X0 := Lib.hid hX0
    clear hX0
    clear HB0
    clear hb
    cases b
    case false =>
      go_wp2_with fail
      refine (HAW.out _ HB1.out).mono ?_
      rintro e w2 ⟨rfl, hb⟩
      have HB2 := Lib.hid (belowNext HB1.out hb)
      have hX0 := X0.out.step hb
      clear X0
      have X0 := Lib.hid hX0
      clear hX0
      clear HB1
      clear hb
      go_wp2
      go_ret
      exact ⟨rfl, HB2.out⟩
    case true =>
      have x0_0 := X0.out.1.c0
      have x0_1 := X0.out.1.c1
      go_wp2_with fail
      clear x0_0 x0_1
      refine (HCK.out _ _ X0.out.2).mono ?_
      rintro e w2 ⟨rfl, hb⟩
      have HB2 := Lib.hid (belowNext HB1.out hb)
      have hX0 := X0.out.step hb
      clear X0
      have X0 := Lib.hid hX0
      clear hX0
      clear HB1
      clear hb
      have x0_0 := X0.out.1.c0
      have x0_1 := X0.out.1.c1
      go_wp2_with fail
      clear x0_0 x0_1
      refine (HCM2.out _ _ HB2.out X0.out.2).mono ?_
      rintro e w3 ⟨C, rfl, hb⟩
      have HB3 := Lib.hid (belowNext HB2.out hb)
      have hX0 := X0.out.step hb
      clear X0
      have X0 := Lib.hid hX0
      clear hX0
      clear HB2
      clear hb
      have x0_0 := X0.out.1.c0
      have x0_1 := X0.out.1.c1
      go_wp2_with fail
      clear x0_0 x0_1
      refine (HAG.out _ _ HB3.out X0.out.2).mono ?_
      rintro e w4 ⟨rfl, hb⟩
      have HB4 := Lib.hid (belowNext HB3.out hb)
      have hX0 := X0.out.step hb
      clear X0
      have X0 := Lib.hid hX0
      clear hX0
      clear HB3
      clear hb
      go_wp2_with fail
      refine (HAW.out _ HB4.out).mono ?_
      rintro e w9 ⟨rfl, hb⟩
      have HB5 := Lib.hid (belowNext HB4.out hb)
      have hX0 := X0.out.step hb
      clear X0
      have X0 := Lib.hid hX0
      clear hX0
      clear HB4
      clear hb
      go_wp2
      go_ret
      exact ⟨rfl, HB5.out⟩
  obtain ⟨_, hx0, hxn⟩ := comE_ok hco
  obtain ⟨y, rfl⟩ := Int.eq_ofNat_of_zero_le hx0
  have hy : y < P.wt.length := by omega
  have HCM2 : Hid (∀ (u : Value) (W : World), Below w.heap.size w W → PrR W W.heap.size u P → Calls Tryd.prog 15 #[u, .int .i64 (y : Int)] W fun e w' => ∃ C : Nat, e = .returned (.tuple #[.int .u64 (C : Int), .int .i64 0]) ∧ (∃ j, LubK P P.cells.length j ∧ C = blkV j (y : Int)) ∧ Below W.heap.size W w') := Lib.hid (fun u W hb h => (HCM.out u W hb h).mono fun e w' ⟨C, h1, h2, h3⟩ => ⟨C, by rw [hco] at h1; exact h1, h2.2 hco, h3⟩)
  clear HCM
  by_cases hev : evE P s = 0
  case neg =>
    have hag : agE P (y : Int) s = evE P s := by unfold agE; rw [if_neg hev]
    rw [hag] at HAG
    have HCM3 : Hid (∀ (u : Value) (W : World), Below w.heap.size w W → PrR W W.heap.size u P → Calls Tryd.prog 15 #[u, .int .i64 (y : Int)] W fun e w' => ∃ C : Nat, e = .returned (.tuple #[.int .u64 (C : Int), .int .i64 0]) ∧ Below W.heap.size W w') := Lib.hid (fun u W hb h => (HCM2.out u W hb h).mono fun e w' ⟨C, h1, _, h3⟩ => ⟨C, h1, h3⟩)
    have hne : (evE P s != 0) = true := by rw [bne_iff_ne]; exact hev
    clear HCM2 HPS hck hok hag hco hx0 hxn hy
    generalize agV P (y : Int) s = AG at *
    generalize evE P s = E at *
    generalize P.wt.length = n at *
    generalize P.cells.length = m at *
    go_enter Tryd.func8, Tryd.ntmps8
    have x0_0 := X0.out.1.c0
    have x0_1 := X0.out.1.c1
    go_wp2_with fail
    clear x0_0 x0_1
    refine (HFW.out _ 20 _ X0.out.2).mono ?_
    rintro e w1 ⟨b, rfl, hb⟩
    have HB1 := Lib.hid (belowNext HB0.out hb)
    have hX0 := X0.out.step hb
    clear X0
    have X0 := Lib.hid hX0
    clear hX0
    clear HB0
    clear hb
    cases b
    case false =>
      go_wp2_with fail
      refine (HAW.out _ HB1.out).mono ?_
      rintro e w2 ⟨rfl, hb⟩
      have HB2 := Lib.hid (belowNext HB1.out hb)
      have hX0 := X0.out.step hb
      clear X0
      have X0 := Lib.hid hX0
      clear hX0
      clear HB1
      clear hb
      go_wp2
      go_ret
      exact ⟨rfl, HB2.out⟩
    case true =>
      have x0_0 := X0.out.1.c0
      have x0_1 := X0.out.1.c1
      go_wp2_with fail
      clear x0_0 x0_1
      refine (HCK.out _ _ X0.out.2).mono ?_
      rintro e w2 ⟨rfl, hb⟩
      have HB2 := Lib.hid (belowNext HB1.out hb)
      have hX0 := X0.out.step hb
      clear X0
      have X0 := Lib.hid hX0
      clear hX0
      clear HB1
      clear hb
      have x0_0 := X0.out.1.c0
      have x0_1 := X0.out.1.c1
      go_wp2_with fail
      clear x0_0 x0_1
      refine (HCM3.out _ _ HB2.out X0.out.2).mono ?_
      rintro e w3 ⟨C, rfl, hb⟩
      have HB3 := Lib.hid (belowNext HB2.out hb)
      have hX0 := X0.out.step hb
      clear X0
      have X0 := Lib.hid hX0
      clear hX0
      clear HB2
      clear hb
      have x0_0 := X0.out.1.c0
      have x0_1 := X0.out.1.c1
      go_wp2_with fail
      clear x0_0 x0_1
      refine (HAG.out _ _ HB3.out X0.out.2).mono ?_
      rintro e w4 ⟨rfl, hb⟩
      have HB4 := Lib.hid (belowNext HB3.out hb)
      have hX0 := X0.out.step hb
      clear X0
      have X0 := Lib.hid hX0
      clear hX0
      clear HB3
      clear hb
      go_wp2_with fail
      refine (HAW.out _ HB4.out).mono ?_
      rintro e w9 ⟨rfl, hb⟩
      have HB5 := Lib.hid (belowNext HB4.out hb)
      have hX0 := X0.out.step hb
      clear X0
      have X0 := Lib.hid hX0
      clear hX0
      clear HB4
      clear hb
      go_wp2
      go_ret
      exact ⟨rfl, HB5.out⟩
  rw [agE_of hev hy, agV_of hev hy] at HAG
  have HPS2 : Hid (∀ (a : Nat) (u : Value) (W : World), a < P.cells.length → Below w.heap.size w W → PrR W W.heap.size u P → Calls Tryd.prog 24 #[u, .int .i64 (a : Int), .int .u64 (s : Int)] W (GivesLF (postL P a s) P.wt.length 0 W)) := Lib.hid (fun a u W ha hb h => by
    have h2 := HPS.out a u W hb h
    rw [postsE_of hev ha, postsL_of hev ha, postL_len] at h2
    exact h2)
  have HLA : Hid (∀ a u, u < P.wt.length → (postL P a s).getD u (0, 0) = postN P a u s) := Lib.hid (fun a u hu => postL_at P a s hu)
  have HAB : Hid (∀ j, LubK P P.cells.length j → (∀ a, a < P.cells.length → ∀ u, u < P.wt.length → (blkV j (y : Int)).testBit u = true → postN P a u s = postN P a y s) → agB P y s = true) := Lib.hid (fun j hj hc => com_agree hok hj hy hc)
  have hle := hok.le
  have hagn := hok.ag
  have HCL : Hid (∀ j, LubK P P.cells.length j → blkV j (y : Int) < 18446744073709551616) := Lib.hid (fun j hj => by
    unfold blkV
    split
    · exact cls_lt _ _ _ (by rw [hj.can.len]; exact hle)
    · decide)
  have HCM4 : Hid (∀ (u : Value) (W : World), Below w.heap.size w W → PrR W W.heap.size u P → Calls Tryd.prog 15 #[u, .int .i64 (y : Int)] W fun e w' => ∃ C : Nat, e = .returned (.tuple #[.int .u64 (C : Int), .int .i64 0]) ∧ (C < 18446744073709551616 ∧ ((∀ a, a < P.cells.length → ∀ u, u < P.wt.length → C.testBit u = true → postN P a u s = postN P a y s) → agB P y s = true)) ∧ Below W.heap.size W w') := Lib.hid (fun u W hb h => (HCM2.out u W hb h).mono fun e w' h => by
    obtain ⟨C, h1, ⟨j, hj, rfl⟩, h3⟩ := h
    exact ⟨_, h1, ⟨HCL.out j hj, HAB.out j hj⟩, h3⟩)
  clear HPS HCM2 HAB HCL hck hok hco hx0 hev hxn
  have d1 : decide ((y : Int) < 0) = false := by simp
  have d2 : decide (P.wt.length ≤ y) = false := decide_eq_false (by omega)
  generalize hPL : (fun a => postL P a s) = PL at *
  have hPLa : ∀ a, postL P a s = PL a := fun a => by rw [← hPL]
  simp only [hPLa] at HPS2 HLA
  clear hPL hPLa
  generalize hPN : (fun a u => postN P a u s) = PN at *
  have hPNa : ∀ a u, postN P a u s = PN a u := fun a u => by rw [← hPN]
  simp only [hPNa] at HCM4 HLA
  clear hPN hPNa
  generalize agB P y s = AG at *
  generalize P.wt.length = n at *
  generalize P.cells.length = m at *
  go_enter Tryd.func8, Tryd.ntmps8
  have x0_0 := X0.out.1.c0
  have x0_1 := X0.out.1.c1
  go_wp2_with fail
  clear x0_0 x0_1
  refine (HFW.out _ 20 _ X0.out.2).mono ?_
  rintro e w1 ⟨b, rfl, hb⟩
  have HB1 := Lib.hid (belowNext HB0.out hb)
  have hX0 := X0.out.step hb
  clear X0
  have X0 := Lib.hid hX0
  clear hX0
  clear HB0
  clear hb
  cases b
  case false =>
    go_wp2_with fail
    refine (HAW.out _ HB1.out).mono ?_
    rintro e w2 ⟨rfl, hb⟩
    have HB2 := Lib.hid (belowNext HB1.out hb)
    have hX0 := X0.out.step hb
    clear X0
    have X0 := Lib.hid hX0
    clear hX0
    clear HB1
    clear hb
    go_wp2
    go_ret
    exact ⟨rfl, HB2.out⟩
  case true =>
    have x0_0 := X0.out.1.c0
    have x0_1 := X0.out.1.c1
    go_wp2_with fail
    clear x0_0 x0_1
    refine (HCK.out _ _ X0.out.2).mono ?_
    rintro e w2 ⟨rfl, hb⟩
    have HB2 := Lib.hid (belowNext HB1.out hb)
    have hX0 := X0.out.step hb
    clear X0
    have X0 := Lib.hid hX0
    clear hX0
    clear HB1
    clear hb
    have x0_0 := X0.out.1.c0
    have x0_1 := X0.out.1.c1
    go_wp2_with fail
    clear x0_0 x0_1
    refine (HCM4.out _ _ HB2.out X0.out.2).mono ?_
    rintro e w3 ⟨C, rfl, hC, hb⟩
    have hCl := hC.1
    have HC := Lib.hid hC.2
    clear hC
    have HB3 := Lib.hid (belowNext HB2.out hb)
    have hX0 := X0.out.step hb
    clear X0
    have X0 := Lib.hid hX0
    clear hX0
    clear HB2
    clear hb
    have x0_0 := X0.out.1.c0
    have x0_1 := X0.out.1.c1
    go_wp2_with fail
    clear x0_0 x0_1
    refine (HAG.out _ _ HB3.out X0.out.2).mono ?_
    rintro e w4 ⟨rfl, hb⟩
    have HB4 := Lib.hid (belowNext HB3.out hb)
    have hX0 := X0.out.step hb
    clear X0
    have X0 := Lib.hid hX0
    clear hX0
    clear HB3
    clear hb
    have x0_0 := X0.out.1.c0
    have x0_1 := X0.out.1.c1
    go_wp2
    clear HFW HCK HCM4 HAG
    go_loopw [58] (fun i wr => ∃ k : Nat, k ≤ m ∧ i = .int .i64 (k : Int) ∧ Hid (∀ a, a < k → ∀ u, u < n → C.testBit u = true → PN a u = PN a y) ∧ Hid (Below w.heap.size w wr ∧ BoxP wr w.heap.size (.slice A1 n c1) (.slice A2 m c2) P)) (fun i _ => m - (intOf i).toNat)
    case atStart => exact ⟨0, Nat.zero_le _, rfl, Lib.hid (fun a ha => absurd ha (by omega)), Lib.hid ⟨HB4.out, X0.out⟩⟩
    case round =>
      clear x0_0 x0_1 X0
      obtain ⟨k, hk, rfl, HF, HI⟩ := hrel
      have x0_0 := HI.out.2.1.c0
      have x0_1 := HI.out.2.1.c1
      by_cases hlt : k < m
      · go_wp2_with fail
        refine (HPS2.out k _ _ hlt HI.out.1 HI.out.2.2).mono ?_
        rintro e w5 ⟨BL, cL, rfl, hl, hb⟩
        have HI5 := Lib.hid (⟨belowNext HI.out.1 hb, HI.out.2.step hb⟩ : _ ∧ _)
        obtain ⟨b, ob, rfl, _⟩ := hl.at_ hy
        have HL5 := Lib.hid (fun u (hu : u < n) => by
          have h := (hl.at_ hu)
          rw [HLA.out k u hu] at h
          exact h)
        clear hl hb HI x0_0 x0_1
        have x0_0 := HI5.out.2.1.c0
        have x0_1 := HI5.out.2.1.c1
        go_wp2
        go_loopw [80] (fun i wr => ∃ u : Nat, u ≤ n ∧ i = .int .i64 (u : Int) ∧ Hid (∀ z, z < u → C.testBit z = true → PN k z = PN k y) ∧ Hid (Below w5.heap.size w5 wr)) (fun i _ => n - (intOf i).toNat)
        case atStart => exact ⟨0, Nat.zero_le _, rfl, Lib.hid (fun z hz => absurd hz (by omega)), Lib.hid (Below.refl _ w5)⟩
        case round =>
          clear x0_0 x0_1
          obtain ⟨u, hu, rfl, HZ, HW5⟩ := hrel
          by_cases hlu : u < n
          · obtain ⟨b1, o1, e1, hc1⟩ := HL5.out u hlu
            obtain ⟨b2, o2, e2, hc2⟩ := HL5.out y hy
            injection e1 with e1
            injection e1 with e1 e3
            injection e2 with e2
            injection e2 with e2 e4
            subst e1 e3 e2 e4
            have y0 := (hc1 _ HW5.out).1
            have y1 := (hc1 _ HW5.out).2
            have y2 := (hc2 _ HW5.out).1
            have y3 := (hc2 _ HW5.out).2
            clear hc1 hc2
            have hu64 : min u 64 = u := Nat.min_eq_left (by omega)
            have hwu : IntKind.u64.wrap (u : Int) = (u : Int) := wrapU_in u (by omega)
            have hbit := bit_and (s := C) (k := u) hCl
            generalize hpu : PN k u = pu at *
            generalize hpy : PN k y = py at *
            obtain ⟨pu1, pu2⟩ := pu
            obtain ⟨py1, py2⟩ := py
            dsimp only at y0 y1 y2 y3
            have hneq := fun W => neqFr (pu1, pu2) (py1, py2) W
            dsimp only at hneq
            by_cases hb : C.testBit u = true
            · rw [if_pos hb] at hbit
              have hg : (bits .and .u64 ((C : Int) / 2 ^ u) 1 == 1) = true := by rw [hbit]; rfl
              by_cases hq : (pu1, pu2) = (py1, py2)
              · rw [show eqQ (pu1, pu2) (py1, py2) = true by unfold eqQ; exact decide_eq_true hq] at hneq
                have HZ2 : Hid (∀ z, z < u + 1 → C.testBit z = true → PN k z = PN k y) := Lib.hid (fun z hz hbz => by
                  by_cases e : z = u
                  · rw [e, hpu, hpy]; exact hq
                  · rw [hpy]; exact HZ.out z (by omega) hbz)
                rw [hpy] at HZ2
                clear hb hq hpu hpy
                go_wp2
                go_quiet (fail)
                go_wp2
                go_roundw
                case rel => exact ⟨u + 1, by omega, by go_num, HZ2, Lib.hid (below_drewN HW5.out nq)⟩
                case measure => first | (simp [intOf]; done) | (simp [intOf]; omega)
              · rw [show eqQ (pu1, pu2) (py1, py2) = false by unfold eqQ; exact decide_eq_false hq] at hneq
                clear hb hq hpu hpy
                go_wp2
                go_quiet (fail)
                go_wp2_with fail
                have HW6 := Lib.hid (belowNext HI5.out.1 (below_drewN HW5.out nq))
                refine (HAW.out _ HW6.out).mono ?_
                rintro e w7 ⟨rfl, hb7⟩
                have HBZ := Lib.hid (belowNext HW6.out hb7)
                clear hb7
                go_wp2
                go_ret
                exact ⟨rfl, HBZ.out⟩
            · rw [if_neg hb] at hbit
              have hg : (bits .and .u64 ((C : Int) / 2 ^ u) 1 == 1) = false := by rw [hbit]; rfl
              have HZ2 : Hid (∀ z, z < u + 1 → C.testBit z = true → PN k z = PN k y) := Lib.hid (fun z hz hbz => by
                by_cases e : z = u
                · rw [e] at hbz; exact absurd hbz hb
                · rw [hpy]; exact HZ.out z (by omega) hbz)
              rw [hpy] at HZ2
              clear hb hpu hpy hneq
              go_wp2
              go_quiet (fail)
              go_wp2
              go_roundw
              case rel => exact ⟨u + 1, by omega, by go_num, HZ2, Lib.hid (below_drewN HW5.out nq)⟩
              case measure => first | (simp [intOf]; done) | (simp [intOf]; omega)
          · obtain rfl : u = n := by omega
            go_wp2
            go_roundw
            case rel => exact ⟨k + 1, by omega, by go_num, Lib.hid (fun a ha z hz hbz => by
              by_cases e : a = k
              · rw [e]; exact HZ.out z hz hbz
              · exact HF.out a (by omega) z hz hbz), Lib.hid ⟨belowNext HI5.out.1 HW5.out, HI5.out.2.step HW5.out⟩⟩
            case measure => first | (simp [intOf]; done) | (simp [intOf]; omega)
      · obtain rfl : k = m := by omega
        have hAG := HC.out (fun a ha => HF.out a ha)
        clear HC HF
        subst hAG
        go_wp2_with fail
        refine (HAW.out _ HI.out.1).mono ?_
        rintro e w6 ⟨rfl, hb⟩
        have HBZ := Lib.hid (belowNext HI.out.1 hb)
        clear hb
        go_wp2
        go_ret
        exact ⟨rfl, HBZ.out⟩
set_option maxRecDepth 100000 in
theorem contract (H : Type) (enc : TypeId × Value → H) (W : World) (base : Nat) (args : Array Value) (ds gs : List (DataW H)) (before : List MemPlace)
    (hval : ∀ (j : Nat) t v, Tryd.f8.params[j]? = some t → args[j]? = some v → Value.okWide Tryd.prog W .any base t v)
    (hW : DataW.Whole enc Tryd.prog Tryd.f8.params.toList Rows.agreementCannotSpec.vars false W args.toList ds gs before) (hE : Tab W ∧ FinW W) :
    Calls Tryd.prog 8 args W fun e W' => ∃ v, e = .returned v ∧ Rows.agreementCannotSpec.post enc Tryd.prog Tryd.f8 false true false false W args v W' := by
  have hW' := hW
  obtain ⟨p, q, hA0, hV, rfl, hfz, hnd⟩ := hW
  have hA : DataW.TrodAll enc Tryd.prog W 0 (fun _ => true) true Tryd.f8.params.toList args.toList ds p := hA0
  rw [Tryd.params8] at hA hval
  obtain ⟨v0, vs0, d0, ds0, p0, q0, hargs, rfl, rfl, h0, r0⟩ := trodAll_cons hA
  obtain ⟨v1, vs1, d1, ds1, p1, q1, rfl, rfl, rfl, h1, r1⟩ := trodAll_cons r0
  obtain ⟨v2, vs2, d2, ds2, p2, q2, rfl, rfl, rfl, h2, r2⟩ := trodAll_cons r1
  obtain ⟨rfl, rfl, rfl⟩ := trodAll_nil r2
  obtain rfl : args = #[v0, v1, v2] := by cases args; simp_all
  obtain ⟨rfl, rfl⟩ := trodVars_none hV
  obtain ⟨P0, w0⟩ := open_prior (hval 0 25 v0 rfl rfl) h0
  have k0 := h0
  have lt0 : ∀ x ∈ p0, x.block < W.heap.size := by obtain ⟨m, hm⟩ := k0; exact DataW.trod_lt m _ _ _ hm
  obtain ⟨g1, rfl, rfl, rfl, w1⟩ := open_int Tryd.underlying3 (hval 1 3 v1 rfl rfl) h1
  obtain ⟨g2, rfl, rfl, rfl, w2⟩ := open_int Tryd.underlying28 (hval 2 28 v2 rfl rfl) h2
  obtain ⟨g2, rfl, hu2⟩ : ∃ n : Nat, g2 = (n : Int) ∧ n < 18446744073709551616 := by have hz := w2; have q1 : IntKind.u64.min = 0 := rfl; have q2 : IntKind.u64.max = 18446744073709551615 := rfl; simp [Lit.wf] at hz; exact ⟨g2.toNat, by omega, by omega⟩
  clear hA0
  simp only [List.append_nil] at hW'
  have hwalk := walk P0 v0 g1 g2 W w0 hu2 hE
  refine hwalk.mono fun e W' ⟨he, hg⟩ => ?_
  subst he
  exact ⟨_, rfl, _, _, _, [], _, [], hW', trodAll_mk1 (shut_bool Tryd.underlying4 _), (trodAll_cons_mk (Below.trod laidOut (by kernel_rfl) (of_decide_eq_true (by kernel_rfl)) k0 hg lt0) (trodAll_cons_mk (shut_int Tryd.underlying3 w1) (trodAll_cons_mk (shut_int Tryd.underlying28 w2) trodAll_mk0))), rfl, hg.frame _, fun h => by cases h⟩
theorem reads (os : Os) {H : Type} (enc : TypeId × Value → H) : ∃ places, DataW.whole enc Tryd.prog ((laidW os).forCall (fun _ _ => 0) ⟨#[], #[.agg #[.slice none 0 0, .slice none 0 0], .int .i64 0, .int .u64 0], []⟩).memory Tryd.f8.params.toList Rows.agreementCannotSpec.vars false #[(.agg #[.slice none 0 0, .slice none 0 0] : Value), (.int .i64 0 : Value), (.int .u64 0 : Value)].toList 8 = some ([.agg [.nil, .nil], .lit (.int .i64 0), .lit (.int .u64 0)], [], places) :=
  ⟨[], by kernel_rfl⟩
set_option maxRecDepth 100000 in
theorem lifted (os : Os) (started : os.Started) (H : Type) (enc : TypeId × Value → H) (F : Stop.Interp) :
    ReturnsInHanded {} Tryd.checked os 8 .any ((OpenSpec.ofChange Rows.agreementCannotSpec).preRow enc Tryd.prog Tryd.f8 Rows.agreementCannotRow.domain false Rows.agreementCannotRow.laid) (((OpenSpec.ofChange Rows.agreementCannotSpec).at F).post enc Tryd.prog Tryd.f8 false true false false) := by
  obtain ⟨places, hx⟩ := reads os enc
  refine returnsInHanded_of_row (C := Tryd.checked) (s := OpenSpec.ofChange Rows.agreementCannotSpec) own started (by kernel_rfl) Tryd.func8
    (witness_row_atRef (enc := enc) (C := Tryd.checked) false (laidW os) #[.agg #[.slice none 0 0, .slice none 0 0], .int .i64 0, .int .u64 0] (laidW_os os) (vars_ok os _) (heap_ok os _) (by kernel_rfl)
      (OpenSpec.preRow_of_cond 8 hx (by kernel_rfl) (fun k hk => by cases hk) (by kernel_rfl) (laid_met os _))) ?_
  intro W base args ds gs before hval hW _ _ _ hL hsh _
  exact contract H enc W base args ds gs before hval hW (env_of hL)
theorem said : Rows.AgreementCannotSaid :=
  OpenClaim.holds_of_cond 8 Tryd.f8 rfl rfl rfl rfl rfl rfl rfl ⟨rfl, rfl, rfl, rfl, rfl⟩ rfl rfl rfl rfl rfl (by kernel_rfl) Tryd.func8 (by kernel_rfl)
    (of_decide_eq_true (by kernel_rfl)) (by unfold Func.isWrapper; first | (rw [if_pos (by decide +kernel)]; kernel_rfl) | (rw [if_neg (by decide +kernel)]; exact ⟨rfl, rfl⟩))
    (fun os started H enc _ F => by rw [OpenClaim.pre_eq_preRow]; exact lifted os started H enc F)
theorem plain (f : FuncId) (fn : Func) (hf : Tryd.pinned.checked.prog.funcNamed "witting/wittinglaw24.AgreementCannot" = some f) (hfn : Tryd.pinned.checked.prog.funcs[f]? = some fn) :
    false = Tryd.pinned.checked.prog.looks [] ∧ ∀ (j : Nat) t, fn.params[j]? = some t → Tryd.pinned.checked.prog.wantsStandIn t = false := by
  obtain rfl : f = 8 := Option.some.inj ((show Tryd.prog.funcNamed "witting/wittinglaw24.AgreementCannot" = some 8 by kernel_rfl).symm.trans hf) |>.symm
  obtain rfl : fn = Tryd.f8 := (Option.some.inj (Tryd.func8.symm.trans hfn)).symm
  refine ⟨no_looks, fun j t ht => ?_⟩
  rw [Tryd.params8] at ht
  have hm : t ∈ [25, 3, 28] := by simpa using Array.mem_of_getElem? ht
  have hall : ([25, 3, 28].all fun u => !Tryd.prog.wantsStandIn u) = true := by kernel_rfl
  exact (show Tryd.prog.wantsStandIn t = false by simpa using List.all_eq_true.1 hall t hm)
theorem card : Rows.AgreementCannotCardSaid :=
  Claim7.holds_tied_plain_at .later [] _ _ _ _ said (fun _ h => by cases h) (by kernel_rfl) (fun _ h => by cases h) agreementCannot_row_tie rfl ⟨rfl, rfl⟩ (by kernel_rfl) rfl plain (by kernel_rfl)
#print axioms card
end Go.Proofs.YtfbgabcdeecpoaaDoor.agreementCannot
