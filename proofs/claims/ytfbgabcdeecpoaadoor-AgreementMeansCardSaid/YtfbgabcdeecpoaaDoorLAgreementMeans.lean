/- Layer 24: AgreementMeans. -/
import Derived.Test.YtfbgabcdeecpoaaDoorNMw
namespace Go.Proofs.YtfbgabcdeecpoaaDoor.agreementMeans
open Go.ChangeShapes Go.WideShapes Go.ChangeAt Go.RowKit Go.Proofs.YtfbgabcdeecpoaaDoor Go.Proofs.YtfbgabcdeecpoaaDoor.agr Go.Proofs.Ws
open Go.ChangeMaps (open_string shut_string)
set_option maxRecDepth 100000
set_option maxHeartbeats 8000000 in
theorem walk (P : Pri) (v : Value) (a : Int) (s : Nat) (w : World) (hM : PrR w w.heap.size v P) (hs : s < 18446744073709551616) (hE : EnvW w) :
    Calls Tryd.prog 9 #[v, .int .i64 a, .int .u64 (s : Int)] w fun e w' => e = .returned (.bool true) ∧ Below w.heap.size w w' := by
  have HFW := Lib.hid (fun (u : Value) (x : Int) (W : World) (h : PrR W W.heap.size u P) => rFew_any P u x W h)
  have HAW := Lib.hid (fun (W : World) (hb : Below w.heap.size w W) => awake_any W (hE.below hb).1 (hE.below hb).2)
  have HCK := Lib.hid (fun (q : Pri) (u : Value) (W : World) (h : PrR W W.heap.size u q) => aCheck_any q u W h)
  have HWG := Lib.hid (fun (S : Nat) (u : Value) (W : World) (h : PrR W W.heap.size u P) (hok : OkP P) (hS : S < 18446744073709551616) => rWeight_any P u S W h hok hS)
  have HPS : Hid (∀ (u : Value) (W : World), Below w.heap.size w W → PrR W W.heap.size u P → Calls Tryd.prog 24 #[u, .int .i64 a, .int .u64 (s : Int)] W (GivesLF (postsL P a s) (postsL P a s).length (postsE P a s) W)) := Lib.hid (fun u W hb h => (aPostsE_any P u a s W h hs (hE.below hb).1))
  obtain ⟨A1, c1, A2, c2, rfl, hv, hr⟩ := hM.ex
  have HB0 : Hid (Below w.heap.size w (w.alloc (.cells #[.slice A1 P.wt.length c1, .slice A2 P.cells.length c2] 25))) := Lib.hid ((Below.refl _ w).alloc (Nat.le_refl _) _)
  have X0 := Lib.hid (BoxP.made hM)
  clear hM hv hr hE hs
  by_cases hck : chkP P = 0
  case neg =>
    have hne : (chkP P != 0) = true := by rw [bne_iff_ne]; exact hck
    have HCK := Lib.hid (HCK.out P)
    clear HWG HPS
    generalize chkP P = E at *
    generalize P.wt.length = n at *
    generalize P.cells.length = m at *
    go_enter Tryd.func9, Tryd.ntmps9
    have x0_0 := X0.out.1.c0
    have x0_1 := X0.out.1.c1
    go_wp2_with fail
    clear x0_0 x0_1
    refine (HFW.out _ 20 _ X0.out.2).mono ?_
    rintro e w1 ⟨b, rfl, hb⟩
    have HB1 := Lib.hid (belowNext HB0.out hb)
    have hX0 := X0.out.step hb
    clear X0
    have X0 := Lib.hid hX0
    clear hX0
    clear HB0
    clear hb
    cases b
    case false =>
      go_wp2_with fail
      refine (HAW.out _ HB1.out).mono ?_
      rintro e w2 ⟨rfl, hb⟩
      have HB2 := Lib.hid (belowNext HB1.out hb)
      have hX0 := X0.out.step hb
      clear X0
      have X0 := Lib.hid hX0
      clear hX0
      clear HB1
      clear hb
      go_wp2
      go_ret
      exact ⟨rfl, HB2.out⟩
    case true =>
      have x0_0 := X0.out.1.c0
      have x0_1 := X0.out.1.c1
      go_wp2_with fail
      clear x0_0 x0_1
      refine (HCK.out _ _ X0.out.2).mono ?_
      rintro e w2 ⟨rfl, hb⟩
      have HB2 := Lib.hid (belowNext HB1.out hb)
      have hX0 := X0.out.step hb
      clear X0
      have X0 := Lib.hid hX0
      clear hX0
      clear HB1
      clear hb
      go_wp2_with fail
      refine (HAW.out _ HB2.out).mono ?_
      rintro e w9 ⟨rfl, hb⟩
      have HB3 := Lib.hid (belowNext HB2.out hb)
      have hX0 := X0.out.step hb
      clear X0
      have X0 := Lib.hid hX0
      clear hX0
      clear HB2
      clear hb
      go_wp2
      go_ret
      exact ⟨rfl, HB3.out⟩
  have hok := chkP_ok hck
  have HCP := Lib.hid (HCK.out P)
  rw [hck] at HCP
  by_cases hev : postsE P a s = 0
  case neg =>
    have hne : (postsE P a s != 0) = true := by rw [bne_iff_ne]; exact hev
    clear HWG HCK hck hok hev
    generalize (postsL P a s).length = k at *
    generalize postsL P a s = L at *
    generalize postsE P a s = E at *
    generalize P.wt.length = n at *
    generalize P.cells.length = m at *
    go_enter Tryd.func9, Tryd.ntmps9
    have x0_0 := X0.out.1.c0
    have x0_1 := X0.out.1.c1
    go_wp2_with fail
    clear x0_0 x0_1
    refine (HFW.out _ 20 _ X0.out.2).mono ?_
    rintro e w1 ⟨b, rfl, hb⟩
    have HB1 := Lib.hid (belowNext HB0.out hb)
    have hX0 := X0.out.step hb
    clear X0
    have X0 := Lib.hid hX0
    clear hX0
    clear HB0
    clear hb
    cases b
    case false =>
      go_wp2_with fail
      refine (HAW.out _ HB1.out).mono ?_
      rintro e w2 ⟨rfl, hb⟩
      have HB2 := Lib.hid (belowNext HB1.out hb)
      have hX0 := X0.out.step hb
      clear X0
      have X0 := Lib.hid hX0
      clear hX0
      clear HB1
      clear hb
      go_wp2
      go_ret
      exact ⟨rfl, HB2.out⟩
    case true =>
      have x0_0 := X0.out.1.c0
      have x0_1 := X0.out.1.c1
      go_wp2_with fail
      clear x0_0 x0_1
      refine (HCP.out _ _ X0.out.2).mono ?_
      rintro e w2 ⟨rfl, hb⟩
      have HB2 := Lib.hid (belowNext HB1.out hb)
      have hX0 := X0.out.step hb
      clear X0
      have X0 := Lib.hid hX0
      clear hX0
      clear HB1
      clear hb
      have x0_0 := X0.out.1.c0
      have x0_1 := X0.out.1.c1
      go_wp2_with fail
      clear x0_0 x0_1
      refine (HPS.out _ _ HB2.out X0.out.2).mono ?_
      rintro e w5 ⟨BL, cL, rfl, hl, hb⟩
      have HB3 := Lib.hid (belowNext HB2.out hb)
      have hX0 := X0.out.step hb
      clear X0
      have X0 := Lib.hid hX0
      clear hX0
      clear HB2
      clear hb hl
      go_wp2_with fail
      refine (HAW.out _ HB3.out).mono ?_
      rintro e w9 ⟨rfl, hb⟩
      have HB4 := Lib.hid (belowNext HB3.out hb)
      have hX0 := X0.out.step hb
      clear X0
      have X0 := Lib.hid hX0
      clear hX0
      clear HB3
      clear hb
      go_wp2
      go_ret
      exact ⟨rfl, HB4.out⟩
  obtain ⟨_, hsn, ha0, han⟩ := postsE_ok hev
  obtain ⟨y, rfl⟩ := Int.eq_ofNat_of_zero_le ha0
  have hy : y < P.cells.length := by omega
  have hle := hok.le
  have hagn := hok.ag
  have hLL : postsL P (y : Int) s = postL P y s := by unfold postsL; rw [if_pos hev]; rfl
  rw [hLL, hev, postL_len] at HPS
  have hcn := hok.can hy
  have HR0 : Hid (∀ (W : World), BoxP W w.heap.size (.slice A1 P.wt.length c1) (.slice A2 P.cells.length c2) P → ∃ ad Ak ck, A2 = some ad ∧ ∀ W', Below W.heap.size W W' → W'.cell? (ad.add y) = some (.slice (some Ak) P.wt.length ck) ∧ Reads W' W'.heap.size 1 (some Ak) P.wt.length (ints (P.cells.getD y []))) := Lib.hid (fun W h => h.row hok rfl hy)
  have HWS : Hid (∀ (u : Value) (W : World), PrR W W.heap.size u P → Calls Tryd.prog 36 #[u, .int .u64 (s : Int)] W fun e w' => e = .returned (.int .i64 ((meanS P y s P.wt.length : Nat) : Int)) ∧ Below W.heap.size W w') := Lib.hid (fun u W h => by
    rw [meanS_full hok hy]
    exact HWG.out s u W h hok (Nat.lt_of_lt_of_le hsn (Nat.pow_le_pow_right (by decide) hle)))
  have HWB : Hid (∀ (k : Nat) (u : Value) (W : World), PrR W W.heap.size u P → Calls Tryd.prog 36 #[u, .int .u64 (blkV (P.cells.getD y []) (k : Int) : Int)] W fun e w' => e = .returned (.int .i64 ((wOf P.wt (blkV (P.cells.getD y []) (k : Int)) : Nat) : Int)) ∧ Below W.heap.size W w') := Lib.hid (fun k u W h => HWG.out _ u W h hok (by
    unfold blkV
    split
    · exact cls_lt _ _ _ (by rw [hcn.len]; exact hle)
    · decide))
  have HBK : Hid (∀ (k : Nat) (A : Option Addr) (c : Nat) (W : World), Reads W W.heap.size 1 A P.wt.length (ints (P.cells.getD y [])) → Calls Tryd.prog 37 #[.slice A P.wt.length c, .int .i64 (k : Int)] W fun e w' => e = .returned (.int .u64 (blkV (P.cells.getD y []) (k : Int) : Int)) ∧ Below W.heap.size W w') := Lib.hid (fun k A c W hR => pBlock_any _ (k : Int) A P.wt.length c W hR (by unfold maxLen; omega))
  have HMS : Hid (∀ u, u < P.wt.length → ∃ f : Nat, (P.cells.getD y []).getD u 0 = (f : Int) ∧ f < P.wt.length ∧ (postL P y s).getD f (0, 0) = (postL P y s).getD u (0, 0) ∧
      0 < ((postL P y s).getD u (0, 0)).2 ∧ ((postL P y s).getD u (0, 0)).1 ≤ ((postL P y s).getD u (0, 0)).2 ∧ (f = u → wOf P.wt (blkV (P.cells.getD y []) (u : Int)) % ((postL P y s).getD u (0, 0)).2 = 0 ∧ meanS P y s (u + 1) = meanS P y s u + wOf P.wt (blkV (P.cells.getD y []) (u : Int)) / ((postL P y s).getD u (0, 0)).2 * ((postL P y s).getD u (0, 0)).1) ∧ (f ≠ u → meanS P y s (u + 1) = meanS P y s u)) := Lib.hid (fun u hu => by
    obtain ⟨h1, h2⟩ := post_cell (s := s) hok hy hu
    obtain ⟨q1, q2, q3, q4⟩ := post_parts (s := s) hok hy hu
    refine ⟨fo (P.cells.getD y []) u, (part_forest hcn.ok).at_ (by rw [hcn.len]; exact hu), h1, by rw [postL_at P y s h1, postL_at P y s hu, h2], ?_⟩
    rw [postL_at P y s hu]
    exact ⟨q1, q2, fun e => ⟨q3, by rw [meanS_succ, if_pos e, q4]⟩, fun e => by rw [meanS_succ, if_neg e]; rfl⟩)
  have HML : Hid (∀ u, u ≤ P.wt.length → meanS P y s u ≤ 64000) := Lib.hid (fun u hu => meanS_le hok hy hu)
  have HM0 : Hid (meanS P y s 0 = 0) := Lib.hid rfl
  have HWL : Hid (∀ S, wOf P.wt S ≤ 64000) := Lib.hid (fun S => wOf_le hok S)
  have d1 : decide ((y : Int) < 0) = false := by simp
  have d2 : decide (P.cells.length ≤ y) = false := decide_eq_false (by omega)
  clear HWG hck hok hev hLL HCK hsn ha0 han hcn
  generalize meanS P y s = MS at *
  generalize postL P y s = L at *
  generalize P.cells.getD y [] = C at *
  generalize wOf P.wt = WO at *
  generalize hn : P.wt.length = n at *
  generalize hm : P.cells.length = m at *
  clear hn hm
  go_enter Tryd.func9, Tryd.ntmps9
  have x0_0 := X0.out.1.c0
  have x0_1 := X0.out.1.c1
  go_wp2_with fail
  clear x0_0 x0_1
  refine (HFW.out _ 20 _ X0.out.2).mono ?_
  rintro e w1 ⟨b, rfl, hb⟩
  have HB1 := Lib.hid (belowNext HB0.out hb)
  have hX0 := X0.out.step hb
  clear X0
  have X0 := Lib.hid hX0
  clear hX0
  clear HB0
  clear hb
  cases b
  case false =>
    go_wp2_with fail
    refine (HAW.out _ HB1.out).mono ?_
    rintro e w2 ⟨rfl, hb⟩
    have HB2 := Lib.hid (belowNext HB1.out hb)
    have hX0 := X0.out.step hb
    clear X0
    have X0 := Lib.hid hX0
    clear hX0
    clear HB1
    clear hb
    go_wp2
    go_ret
    exact ⟨rfl, HB2.out⟩
  case true =>
    have x0_0 := X0.out.1.c0
    have x0_1 := X0.out.1.c1
    go_wp2_with fail
    clear x0_0 x0_1
    refine (HCP.out _ _ X0.out.2).mono ?_
    rintro e w2 ⟨rfl, hb⟩
    have HB2 := Lib.hid (belowNext HB1.out hb)
    have hX0 := X0.out.step hb
    clear X0
    have X0 := Lib.hid hX0
    clear hX0
    clear HB1
    clear hb
    have x0_0 := X0.out.1.c0
    have x0_1 := X0.out.1.c1
    go_wp2_with fail
    clear x0_0 x0_1
    refine (HPS.out _ _ HB2.out X0.out.2).mono ?_
    rintro e w5 ⟨BL, cL, rfl, hl, hb⟩
    have HB3 := Lib.hid (belowNext HB2.out hb)
    have hX0 := X0.out.step hb
    clear X0
    have X0 := Lib.hid hX0
    clear hX0
    clear HB2
    have L1 := Lib.hid hl
    clear hb hl
    have x0_0 := X0.out.1.c0
    have x0_1 := X0.out.1.c1
    go_wp2
    clear HFW HCP HPS
    go_loopw [9, 52] (fun sv i wr => ∃ u : Nat, u ≤ n ∧ sv = .int .i64 (MS u : Int) ∧ i = .int .i64 (u : Int) ∧ Hid (Below w.heap.size w wr ∧ BoxP wr w.heap.size (.slice A1 n c1) (.slice A2 m c2) P ∧ LstF wr BL n L)) (fun _ i _ => n - (intOf i).toNat)
    case atStart => exact ⟨0, Nat.zero_le _, by rw [HM0.out]; rfl, rfl, Lib.hid ⟨HB3.out, X0.out, L1.out⟩⟩
    case round =>
      clear x0_0 x0_1 X0 L1
      obtain ⟨u, hu, rfl, rfl, HI⟩ := hrel
      by_cases hlt : u < n
      · obtain ⟨ad, Ak, ck, rfl, hX0⟩ := HR0.out wr HI.out.2.1
        obtain ⟨f, hf1, hf2, hf3, hp1, hp2, hmz, hmn⟩ := HMS.out u hlt
        obtain ⟨b1, o1, eA, hA⟩ := HI.out.2.2.at_ hlt
        obtain ⟨b2, o2, eB, hB⟩ := HI.out.2.2.at_ hf2
        rw [eA] at eB
        injection eB with eB
        injection eB with eB eC
        subst eA eB eC
        rw [hf3] at hB
        generalize L.getD u (0, 0) = pq at *
        obtain ⟨p1, p2⟩ := pq
        dsimp only at hA hB hp1 hp2 hmz
        have hba : Below wr.heap.size wr (wr.alloc (.cells #[.int .i64 (p1 : Int), .int .i64 (p2 : Int)] 41)) := (Below.refl _ wr).alloc (Nat.le_refl _) _
        have HI6 := Lib.hid (⟨belowNext HI.out.1 hba, HI.out.2.1.step hba, HI.out.2.2.step hba⟩ : _ ∧ _ ∧ _)
        have HF6 := Lib.hid (FBox.made wr (.int .i64 (p1 : Int)) (.int .i64 (p2 : Int)))
        have l0 := (hA _ (Below.refl _ wr)).1
        have l1 := (hA _ (Below.refl _ wr)).2
        have k0 := (hA _ hba).1
        have k1 := (hA _ hba).2
        have l2 := (hB _ hba).1
        have l3 := (hB _ hba).2
        have y1 := HI6.out.2.1.1.c1
        have y2 := (hX0 _ hba).1
        have y3 : (wr.alloc (.cells #[.int .i64 (p1 : Int), .int .i64 (p2 : Int)] 41)).cell? (Ak.add u) = some (.int .i64 (f : Int)) := by
          obtain ⟨ak, e9, _, h9⟩ := (hX0 _ hba).2.int_at hlt
          injection e9 with e9
          subst e9
          rw [h9, hf1]
        have z0 := HF6.out.c0
        have z1 := HF6.out.c1
        have q1 : decide ((p2 : Int) < 1) = false := decide_eq_false (by omega)
        have q2 : decide ((p1 : Int) < 0) = false := by simp
        have q3 : decide (p2 < p1) = false := decide_eq_false (by omega)
        have hneq := fun W => neqFr (p1, p2) (p1, p2) W
        rw [show eqQ (p1, p2) (p1, p2) = true by unfold eqQ; exact decide_eq_true rfl] at hneq
        dsimp only at hneq
        have HRW := Lib.hid (fun W hb => hX0 W (belowNext hba hb))
        clear hA hB hf1 hf3 hX0
        go_wp2
        generalize wr.alloc (.cells #[.int .i64 (p1 : Int), .int .i64 (p2 : Int)] 41) = w6 at *
        go_quiet (fail)
        generalize hw7 : w6.drewN nq = w7 at *
        have hb67 : Below w6.heap.size w6 w7 := by rw [← hw7]; exact below_drewN (Below.refl _ _) nq
        clear hw7 l0 l1 k0 k1 l2 l3 y1 y2 y3 z0 z1 q1 q2 q3 hneq
        have HI7 := Lib.hid (⟨belowNext HI6.out.1 hb67, HI6.out.2.1.step hb67, HI6.out.2.2.step hb67⟩ : _ ∧ _ ∧ _)
        have HFX : Hid (FBox w7 wr.heap.size (.int .i64 (p1 : Int)) (.int .i64 (p2 : Int)) ∧ True) := Lib.hid ⟨HF6.out.below hb67 HF6.out.lt, trivial⟩
        have HRX := Lib.hid (fun W hb => HRW.out W (belowNext hb67 hb))
        clear HI6 HF6 HRW hb67 HI hba
        by_cases hfu : f = u
        · subst hfu
          have hnq : ((f : Int) != (f : Int)) = false := by simp
          clear hmn
          have HSB := Lib.hid (fun W hb => HBK.out f (some Ak) ck W (HRX.out W hb).2)
          have HSW := Lib.hid (fun W (hb : Below w7.heap.size w7 W) => HWB.out f (.agg #[.slice A1 n c1, .slice (some ad) m c2]) W (HI7.out.2.1.step hb).2)
          have HU : Hid (∀ W, Below w7.heap.size w7 W → W.cell? ⟨w.heap.size, 0, none⟩ = some (.slice A1 n c1) ∧ W.cell? ⟨w.heap.size, 1, none⟩ = some (.slice (some ad) m c2) ∧ W.cell? (ad.add y) = some (.slice (some Ak) n ck) ∧ True) := Lib.hid (fun W hb => ⟨(HI7.out.2.1.step hb).1.c0, (HI7.out.2.1.step hb).1.c1, (HRX.out W hb).1, trivial⟩)
          go_wp2
          refine wp_region_wild [.agg #[.slice A1 n c1, .slice (some ad) m c2], .pointer (some ⟨w.heap.size, 1, none⟩), .slice (some ad) m c2, .int .i64 (y : Int), .pointer (some (ad.add y)), .slice (some Ak) n ck, .int .i64 (f : Int), .int .u64 (blkV C (f : Int) : Int), .int .i64 ((WO (blkV C (f : Int)) : Nat) : Int), .int .i64 ((WO (blkV C (f : Int)) : Nat) : Int)] [91, 92, 93, 94, 95, 96, 97, 98, 99, 13] [0, 1, 2, 4, 5, 7, 8] [] (fun _ _ _ => False) (fun W => Below w7.heap.size w7 W) (fun W W' => Below W.heap.size W W') 10 123 rfl rfl rfl (by decide) (by decide) (by kernel_rfl) (by kernel_rfl) (by kernel_rfl) (by kernel_rfl) (fun W => Below.refl _ W) (fun W1 W2 W3 h1 h2 => h1.trans (h2.mono h1.size)) (fun W W' h h2 => h.trans (h2.mono h.size)) (fun _ _ _ _ h _ => h) (Below.refl w7.heap.size w7).drew (by kernel_rfl) [] rfl ?hop ?fin
          case hop =>
            refine (And.intro ?s0 (And.intro ?s1 (And.intro ?s2 (And.intro ?s4 (And.intro ?s5 (And.intro ?s7 (And.intro ?s8 (trivial))))))))
            case s0 =>
              refine And.intro (by rfl) (fun tm W hS hsz hfr hdep K hK => ?_)
              change tm.size = 123 at hsz
              have t3 : tm.getD 3 undef = .pointer (some ⟨w.heap.size, 0, none⟩) := hfr 3 (by rfl)
              obtain ⟨y0, y1, y2, _⟩ := HU.out W hS
              clear hdep hfr
              go_simp
              exact hK _ W (Below.refl _ W) (wildV_of (by rfl))
            case s1 =>
              refine And.intro (by rfl) (fun tm W hS hsz hfr hdep K hK => ?_)
              change tm.size = 123 at hsz
              have t3 : tm.getD 3 undef = .pointer (some ⟨w.heap.size, 0, none⟩) := hfr 3 (by rfl)
              obtain ⟨y0, y1, y2, _⟩ := HU.out W hS
              clear hdep hfr
              go_simp
              exact hK _ W (Below.refl _ W) (wildV_of (by rfl))
            case s2 =>
              refine And.intro (by rfl) (fun tm W hS hsz hfr hdep K hK => ?_)
              change tm.size = 123 at hsz
              have t92 : tm.getD 92 undef = .pointer (some ⟨w.heap.size, 1, none⟩) := wildV_known (by rfl) (hdep 1 (by rfl) (by decide))
              have t3 : tm.getD 3 undef = .pointer (some ⟨w.heap.size, 0, none⟩) := hfr 3 (by rfl)
              obtain ⟨y0, y1, y2, _⟩ := HU.out W hS
              clear hdep hfr
              go_simp
              exact hK _ W (Below.refl _ W) (wildV_of (by rfl))
            case s4 =>
              refine And.intro (by rfl) (fun tm W hS hsz hfr hdep K hK => ?_)
              change tm.size = 123 at hsz
              have t93 : tm.getD 93 undef = .slice (some ad) m c2 := wildV_known (by rfl) (hdep 2 (by rfl) (by decide))
              have t94 : tm.getD 94 undef = .int .i64 (y : Int) := wildV_known (by rfl) (hdep 3 (by rfl) (by decide))
              clear hdep hfr
              go_simp
              exact hK _ W (Below.refl _ W) (wildV_of (by rfl))
            case s5 =>
              refine And.intro (by rfl) (fun tm W hS hsz hfr hdep K hK => ?_)
              change tm.size = 123 at hsz
              have t95 : tm.getD 95 undef = .pointer (some (ad.add y)) := wildV_known (by rfl) (hdep 4 (by rfl) (by decide))
              have t3 : tm.getD 3 undef = .pointer (some ⟨w.heap.size, 0, none⟩) := hfr 3 (by rfl)
              obtain ⟨y0, y1, y2, _⟩ := HU.out W hS
              clear hdep hfr
              go_simp
              exact hK _ W (Below.refl _ W) (wildV_of (by rfl))
            case s7 =>
              refine And.intro (by rfl) (fun tm W hS hsz hfr hdep K hK => ?_)
              change tm.size = 123 at hsz
              have t96 : tm.getD 96 undef = .slice (some Ak) n ck := wildV_known (by rfl) (hdep 5 (by rfl) (by decide))
              have t97 : tm.getD 97 undef = .int .i64 (f : Int) := wildV_known (by rfl) (hdep 6 (by rfl) (by decide))
              clear hdep hfr
              refine wp_call _ _ _ _ _ rfl rfl (by simp [Act.eval, t96, t97]) (by kernel_rfl) (HSB.out W hS) (fun e W9 h9 => ?_)
              obtain ⟨rfl, hb9⟩ := h9
              exact ⟨_, rfl, hK _ W9 hb9 (wildV_of (by rfl))⟩
            case s8 =>
              refine And.intro (by rfl) (fun tm W hS hsz hfr hdep K hK => ?_)
              change tm.size = 123 at hsz
              have t91 : tm.getD 91 undef = .agg #[.slice A1 n c1, .slice (some ad) m c2] := wildV_known (by rfl) (hdep 0 (by rfl) (by decide))
              have t98 : tm.getD 98 undef = .int .u64 (blkV C (f : Int) : Int) := wildV_known (by rfl) (hdep 7 (by rfl) (by decide))
              clear hdep hfr
              refine wp_call _ _ _ _ _ rfl rfl (by simp [Act.eval, t91, t98]) (by kernel_rfl) (HSW.out W hS) (fun e W9 h9 => ?_)
              obtain ⟨rfl, hb9⟩ := h9
              exact ⟨_, rfl, hK _ W9 hb9 (wildV_of (by rfl))⟩
          case fin =>
            intro fv W hS hV
            have hvl : ((List.range 10).map (fun i => if ([] : List Nat).contains i then fv i else ([.agg #[.slice A1 n c1, .slice (some ad) m c2], .pointer (some ⟨w.heap.size, 1, none⟩), .slice (some ad) m c2, .int .i64 (y : Int), .pointer (some (ad.add y)), .slice (some Ak) n ck, .int .i64 (f : Int), .int .u64 (blkV C (f : Int) : Int), .int .i64 ((WO (blkV C (f : Int)) : Nat) : Int), .int .i64 ((WO (blkV C (f : Int)) : Nat) : Int)] : List Value).getD i undef)) = [.agg #[.slice A1 n c1, .slice (some ad) m c2], .pointer (some ⟨w.heap.size, 1, none⟩), .slice (some ad) m c2, .int .i64 (y : Int), .pointer (some (ad.add y)), .slice (some Ak) n ck, .int .i64 (f : Int), .int .u64 (blkV C (f : Int) : Int), .int .i64 ((WO (blkV C (f : Int)) : Nat) : Int), .int .i64 ((WO (blkV C (f : Int)) : Nat) : Int)] := by rfl
            rw [hvl]
            clear hvl hV
            have HS9 := Lib.hid hS
            clear hS
            simp only [fillD]
            go_simp
            have HI8 := Lib.hid (⟨belowNext HI7.out.1 HS9.out, HI7.out.2.1.step HS9.out, HI7.out.2.2.step HS9.out⟩ : _ ∧ _ ∧ _)
            have hF8 := HFX.out.1.below HS9.out HFX.out.1.lt
            have z0 := hF8.c0
            have z1 := hF8.c1
            obtain ⟨hmd, hms⟩ := hmz (by first | rfl | trivial)
            have hwl := HWL.out (blkV C (f : Int))
            have hml := HML.out f (by omega)
            have hml2 := HML.out (f + 1) (by omega)
            generalize hWB : WO (blkV C (f : Int)) = WB at *
            have t0 : ((p2 : Int) == 0) = false := by rw [beq_eq_false_iff_ne]; omega
            have t1 := tmod_nn WB p2
            have t2 := tdiv_nn WB p2
            rw [hmd] at t1
            have t3 : ((WB : Int) % (p2 : Int)) = 0 := by rw [show ((WB : Int) % (p2 : Int)) = ((WB % p2 : Nat) : Int) by simp, hmd]; rfl
            have hq1 : WB / p2 ≤ 64000 := Nat.le_trans (Nat.div_le_self _ _) hwl
            have hq2 : WB / p2 * p1 ≤ 64000 := by omega
            have t4 : IntKind.i64.wrap ((WB : Int) / (p2 : Int)) = ((WB / p2 : Nat) : Int) := by rw [show ((WB : Int) / (p2 : Int)) = ((WB / p2 : Nat) : Int) by simp]; exact i64_natm _ (by omega)
            have t5 : IntKind.i64.wrap (((WB / p2 : Nat) : Int) * (p1 : Int)) = ((WB / p2 * p1 : Nat) : Int) := by rw [show ((WB / p2 : Nat) : Int) * (p1 : Int) = ((WB / p2 * p1 : Nat) : Int) by rw [Int.natCast_mul]]; exact i64_natm _ (by omega)
            have t6 : IntKind.i64.wrap ((MS f : Int) + ((WB / p2 * p1 : Nat) : Int)) = ((MS (f + 1) : Nat) : Int) := by rw [show ((MS f : Int) + ((WB / p2 * p1 : Nat) : Int)) = ((MS (f + 1) : Nat) : Int) by rw [hms, Int.natCast_add]]; exact i64_natm _ (by omega)
            have t7 : wrap64 ((WB : Int) / (p2 : Int)) = ((WB / p2 : Nat) : Int) := by rw [← IntWalk.i64_left]; exact t4
            have t8 : wrap64 (((WB / p2 : Nat) : Int) * (p1 : Int)) = ((WB / p2 * p1 : Nat) : Int) := by rw [← IntWalk.i64_left]; exact t5
            have t9 : wrap64 ((MS f : Int) + ((WB / p2 * p1 : Nat) : Int)) = ((MS (f + 1) : Nat) : Int) := by rw [← IntWalk.i64_left]; exact t6
            have t10 := wrap64_natm (WB / p2) (Nat.le_trans hq1 (by decide))
            have hsum := Lib.hid hms
            clear hms hml hml2 hwl hmd hq1
            generalize WB / p2 = qq at *
            generalize qq * p1 = qp at *
            generalize hM1 : MS (f + 1) = M1 at *
            generalize hM2 : MS f = M2 at *
            go_wp2
            go_quiet (fail)
            go_wp2
            go_roundw
            case rel => exact ⟨f + 1, by omega, by first | (rw [hM1, hsum.out, Int.natCast_add]) | (rw [hM1, t10, t8, t9]), by go_num, Lib.hid ⟨belowNext HI8.out.1 (below_drewN (Below.refl _ _) nq), HI8.out.2.1.step (below_drewN (Below.refl _ _) nq), HI8.out.2.2.step (below_drewN (Below.refl _ _) nq)⟩⟩
            case measure => first | (simp [intOf]; done) | (simp [intOf]; omega)
        · have hnq : ((f : Int) != (u : Int)) = true := by rw [bne_iff_ne]; omega
          have hme := hmn hfu
          clear hmn hmz hfu
          go_wp2
          go_roundw
          case rel => exact ⟨u + 1, by omega, by rw [hme], by go_num, HI7⟩
          case measure => first | (simp [intOf]; done) | (simp [intOf]; omega)
      · obtain rfl : u = n := by omega
        have x0_0 := HI.out.2.1.1.c0
        have x0_1 := HI.out.2.1.1.c1
        go_wp2_with fail
        refine (HWS.out _ _ HI.out.2.1.2).mono ?_
        rintro e w6 ⟨rfl, hb⟩
        have HB6 := Lib.hid (belowNext HI.out.1 hb)
        clear hb x0_0 x0_1
        go_wp2_with fail
        refine (HAW.out _ HB6.out).mono ?_
        rintro e w7 ⟨rfl, hb⟩
        have HBZ := Lib.hid (belowNext HB6.out hb)
        clear hb
        go_wp2
        go_ret
        exact ⟨rfl, HBZ.out⟩
set_option maxRecDepth 100000 in
theorem contract (H : Type) (enc : TypeId × Value → H) (W : World) (base : Nat) (args : Array Value) (ds gs : List (DataW H)) (before : List MemPlace)
    (hval : ∀ (j : Nat) t v, Tryd.f9.params[j]? = some t → args[j]? = some v → Value.okWide Tryd.prog W .any base t v)
    (hW : DataW.Whole enc Tryd.prog Tryd.f9.params.toList Rows.agreementMeansSpec.vars false W args.toList ds gs before) (hE : Tab W ∧ FinW W) :
    Calls Tryd.prog 9 args W fun e W' => ∃ v, e = .returned v ∧ Rows.agreementMeansSpec.post enc Tryd.prog Tryd.f9 false true false false W args v W' := by
  have hW' := hW
  obtain ⟨p, q, hA0, hV, rfl, hfz, hnd⟩ := hW
  have hA : DataW.TrodAll enc Tryd.prog W 0 (fun _ => true) true Tryd.f9.params.toList args.toList ds p := hA0
  rw [Tryd.params9] at hA hval
  obtain ⟨v0, vs0, d0, ds0, p0, q0, hargs, rfl, rfl, h0, r0⟩ := trodAll_cons hA
  obtain ⟨v1, vs1, d1, ds1, p1, q1, rfl, rfl, rfl, h1, r1⟩ := trodAll_cons r0
  obtain ⟨v2, vs2, d2, ds2, p2, q2, rfl, rfl, rfl, h2, r2⟩ := trodAll_cons r1
  obtain ⟨rfl, rfl, rfl⟩ := trodAll_nil r2
  obtain rfl : args = #[v0, v1, v2] := by cases args; simp_all
  obtain ⟨rfl, rfl⟩ := trodVars_none hV
  obtain ⟨P0, w0⟩ := open_prior (hval 0 25 v0 rfl rfl) h0
  have k0 := h0
  have lt0 : ∀ x ∈ p0, x.block < W.heap.size := by obtain ⟨m, hm⟩ := k0; exact DataW.trod_lt m _ _ _ hm
  obtain ⟨g1, rfl, rfl, rfl, w1⟩ := open_int Tryd.underlying3 (hval 1 3 v1 rfl rfl) h1
  obtain ⟨g2, rfl, rfl, rfl, w2⟩ := open_int Tryd.underlying28 (hval 2 28 v2 rfl rfl) h2
  obtain ⟨g2, rfl, hu2⟩ : ∃ n : Nat, g2 = (n : Int) ∧ n < 18446744073709551616 := by have hz := w2; have q1 : IntKind.u64.min = 0 := rfl; have q2 : IntKind.u64.max = 18446744073709551615 := rfl; simp [Lit.wf] at hz; exact ⟨g2.toNat, by omega, by omega⟩
  clear hA0
  simp only [List.append_nil] at hW'
  have hwalk := walk P0 v0 g1 g2 W w0 hu2 hE
  refine hwalk.mono fun e W' ⟨he, hg⟩ => ?_
  subst he
  exact ⟨_, rfl, _, _, _, [], _, [], hW', trodAll_mk1 (shut_bool Tryd.underlying4 _), (trodAll_cons_mk (Below.trod laidOut (by kernel_rfl) (of_decide_eq_true (by kernel_rfl)) k0 hg lt0) (trodAll_cons_mk (shut_int Tryd.underlying3 w1) (trodAll_cons_mk (shut_int Tryd.underlying28 w2) trodAll_mk0))), rfl, hg.frame _, fun h => by cases h⟩
theorem reads (os : Os) {H : Type} (enc : TypeId × Value → H) : ∃ places, DataW.whole enc Tryd.prog ((laidW os).forCall (fun _ _ => 0) ⟨#[], #[.agg #[.slice none 0 0, .slice none 0 0], .int .i64 0, .int .u64 0], []⟩).memory Tryd.f9.params.toList Rows.agreementMeansSpec.vars false #[(.agg #[.slice none 0 0, .slice none 0 0] : Value), (.int .i64 0 : Value), (.int .u64 0 : Value)].toList 8 = some ([.agg [.nil, .nil], .lit (.int .i64 0), .lit (.int .u64 0)], [], places) :=
  ⟨[], by kernel_rfl⟩
set_option maxRecDepth 100000 in
theorem lifted (os : Os) (started : os.Started) (H : Type) (enc : TypeId × Value → H) (F : Stop.Interp) :
    ReturnsInHanded {} Tryd.checked os 9 .any ((OpenSpec.ofChange Rows.agreementMeansSpec).preRow enc Tryd.prog Tryd.f9 Rows.agreementMeansRow.domain false Rows.agreementMeansRow.laid) (((OpenSpec.ofChange Rows.agreementMeansSpec).at F).post enc Tryd.prog Tryd.f9 false true false false) := by
  obtain ⟨places, hx⟩ := reads os enc
  refine returnsInHanded_of_row (C := Tryd.checked) (s := OpenSpec.ofChange Rows.agreementMeansSpec) own started (by kernel_rfl) Tryd.func9
    (witness_row_atRef (enc := enc) (C := Tryd.checked) false (laidW os) #[.agg #[.slice none 0 0, .slice none 0 0], .int .i64 0, .int .u64 0] (laidW_os os) (vars_ok os _) (heap_ok os _) (by kernel_rfl)
      (OpenSpec.preRow_of_cond 8 hx (by kernel_rfl) (fun k hk => by cases hk) (by kernel_rfl) (laid_met os _))) ?_
  intro W base args ds gs before hval hW _ _ _ hL hsh _
  exact contract H enc W base args ds gs before hval hW (env_of hL)
theorem said : Rows.AgreementMeansSaid :=
  OpenClaim.holds_of_cond 9 Tryd.f9 rfl rfl rfl rfl rfl rfl rfl ⟨rfl, rfl, rfl, rfl, rfl⟩ rfl rfl rfl rfl rfl (by kernel_rfl) Tryd.func9 (by kernel_rfl)
    (of_decide_eq_true (by kernel_rfl)) (by unfold Func.isWrapper; first | (rw [if_pos (by decide +kernel)]; kernel_rfl) | (rw [if_neg (by decide +kernel)]; exact ⟨rfl, rfl⟩))
    (fun os started H enc _ F => by rw [OpenClaim.pre_eq_preRow]; exact lifted os started H enc F)
theorem plain (f : FuncId) (fn : Func) (hf : Tryd.pinned.checked.prog.funcNamed "witting/wittinglaw24.AgreementMeans" = some f) (hfn : Tryd.pinned.checked.prog.funcs[f]? = some fn) :
    false = Tryd.pinned.checked.prog.looks [] ∧ ∀ (j : Nat) t, fn.params[j]? = some t → Tryd.pinned.checked.prog.wantsStandIn t = false := by
  obtain rfl : f = 9 := Option.some.inj ((show Tryd.prog.funcNamed "witting/wittinglaw24.AgreementMeans" = some 9 by kernel_rfl).symm.trans hf) |>.symm
  obtain rfl : fn = Tryd.f9 := (Option.some.inj (Tryd.func9.symm.trans hfn)).symm
  refine ⟨no_looks, fun j t ht => ?_⟩
  rw [Tryd.params9] at ht
  have hm : t ∈ [25, 3, 28] := by simpa using Array.mem_of_getElem? ht
  have hall : ([25, 3, 28].all fun u => !Tryd.prog.wantsStandIn u) = true := by kernel_rfl
  exact (show Tryd.prog.wantsStandIn t = false by simpa using List.all_eq_true.1 hall t hm)
theorem card : Rows.AgreementMeansCardSaid :=
  Claim7.holds_tied_plain_at .later [] _ _ _ _ said (fun _ h => by cases h) (by kernel_rfl) (fun _ h => by cases h) agreementMeans_row_tie rfl ⟨rfl, rfl⟩ (by kernel_rfl) rfl plain (by kernel_rfl)
#print axioms card
end Go.Proofs.YtfbgabcdeecpoaaDoor.agreementMeans
