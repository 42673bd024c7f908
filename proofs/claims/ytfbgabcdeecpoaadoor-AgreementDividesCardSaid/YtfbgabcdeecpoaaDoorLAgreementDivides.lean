/- Layer 24: AgreementDivides. -/
import Derived.Test.YtfbgabcdeecpoaaDoorNMv
namespace Go.Proofs.YtfbgabcdeecpoaaDoor.agreementDivides
open Go.ChangeShapes Go.WideShapes Go.ChangeAt Go.RowKit Go.Proofs.YtfbgabcdeecpoaaDoor Go.Proofs.YtfbgabcdeecpoaaDoor.agr Go.Proofs.Ws
open Go.ChangeMaps (open_string shut_string)
set_option maxRecDepth 100000
set_option maxHeartbeats 8000000 in
theorem walk (P : Pri) (v : Value) (a : Int) (s : Nat) (w : World) (hM : PrR w w.heap.size v P) (hs : s < 18446744073709551616) (hE : EnvW w) :
    Calls Tryd.prog 10 #[v, .int .i64 a, .int .u64 (s : Int)] w fun e w' => e = .returned (.bool true) ∧ Below w.heap.size w w' := by
  have HFW := Lib.hid (fun (u : Value) (x : Int) (W : World) (h : PrR W W.heap.size u P) => rFew_any P u x W h)
  have HAW := Lib.hid (fun (W : World) (hb : Below w.heap.size w W) => awake_any W (hE.below hb).1 (hE.below hb).2)
  have HCK := Lib.hid (fun (q : Pri) (u : Value) (W : World) (h : PrR W W.heap.size u q) => aCheck_any q u W h)
  have HN1 : Hid (∀ (u : Value) (W : World), Below w.heap.size w W → PrR W W.heap.size u P → Calls Tryd.prog 29 #[u, .int .i64 a, .int .u64 (s : Int)] W (GivesPE (annV P a s) (postsE P a s) W)) := Lib.hid (fun u W hb h => (aAnnounce_any P a s u W h hs (hE.below hb).1))
  have HPS : Hid (∀ (u : Value) (W : World), Below w.heap.size w W → PrR W W.heap.size u P → Calls Tryd.prog 24 #[u, .int .i64 a, .int .u64 (s : Int)] W (GivesLF (postsL P a s) (postsL P a s).length (postsE P a s) W)) := Lib.hid (fun u W hb h => (aPostsE_any P u a s W h hs (hE.below hb).1))
  obtain ⟨A1, c1, A2, c2, rfl, hv, hr⟩ := hM.ex
  have HB0 : Hid (Below w.heap.size w (w.alloc (.cells #[.slice A1 P.wt.length c1, .slice A2 P.cells.length c2] 25))) := Lib.hid ((Below.refl _ w).alloc (Nat.le_refl _) _)
  have X0 := Lib.hid (BoxP.made hM)
  clear hM hv hr hE hs
  by_cases hck : chkP P = 0
  case neg =>
    have hne : (chkP P != 0) = true := by rw [bne_iff_ne]; exact hck
    have HCK := Lib.hid (HCK.out P)
    clear HN1 HPS
    generalize chkP P = E at *
    generalize P.wt.length = n at *
    generalize P.cells.length = m at *
    go_enter Tryd.func10, Tryd.ntmps10
    have x0_0 := X0.out.1.c0
    have x0_1 := X0.out.1.c1
    go_wp2_with fail
    clear x0_0 x0_1
    refine (HFW.out _ 20 _ X0.out.2).mono ?_
    rintro e w1 ⟨b, rfl, hb⟩
    have HB1 := Lib.hid (belowNext HB0.out hb)
    have hX0 := X0.out.step hb
    clear X0
    have X0 := Lib.hid hX0
    clear hX0
    clear HB0
    clear hb
    cases b
    case false =>
      go_wp2_with fail
      refine (HAW.out _ HB1.out).mono ?_
      rintro e w2 ⟨rfl, hb⟩
      have HB2 := Lib.hid (belowNext HB1.out hb)
      have hX0 := X0.out.step hb
      clear X0
      have X0 := Lib.hid hX0
      clear hX0
      clear HB1
      clear hb
      go_wp2
      go_ret
      exact ⟨rfl, HB2.out⟩
    case true =>
      have x0_0 := X0.out.1.c0
      have x0_1 := X0.out.1.c1
      go_wp2_with fail
      clear x0_0 x0_1
      refine (HCK.out _ _ X0.out.2).mono ?_
      rintro e w2 ⟨rfl, hb⟩
      have HB2 := Lib.hid (belowNext HB1.out hb)
      have hX0 := X0.out.step hb
      clear X0
      have X0 := Lib.hid hX0
      clear hX0
      clear HB1
      clear hb
      go_wp2_with fail
      refine (HAW.out _ HB2.out).mono ?_
      rintro e w9 ⟨rfl, hb⟩
      have HB3 := Lib.hid (belowNext HB2.out hb)
      have hX0 := X0.out.step hb
      clear X0
      have X0 := Lib.hid hX0
      clear hX0
      clear HB2
      clear hb
      go_wp2
      go_ret
      exact ⟨rfl, HB3.out⟩
  have hok := chkP_ok hck
  have HCP := Lib.hid (HCK.out P)
  rw [hck] at HCP
  by_cases hev : postsE P a s = 0
  case neg =>
    have hne : (postsE P a s != 0) = true := by rw [bne_iff_ne]; exact hev
    have HN2 : Hid (∀ (u : Value) (W : World), Below w.heap.size w W → PrR W W.heap.size u P → Calls Tryd.prog 29 #[u, .int .i64 a, .int .u64 (s : Int)] W (GivesPF (annV P a s) (postsE P a s) W)) := Lib.hid (fun u W hb h => (HN1.out u W hb h).mono fun e w' h => h.pf)
    clear HN1 HCK hck hok hev
    generalize annV P a s = Q at *
    generalize (postsL P a s).length = k at *
    generalize postsL P a s = L at *
    generalize postsE P a s = E at *
    generalize P.wt.length = n at *
    generalize P.cells.length = m at *
    go_enter Tryd.func10, Tryd.ntmps10
    have x0_0 := X0.out.1.c0
    have x0_1 := X0.out.1.c1
    go_wp2_with fail
    clear x0_0 x0_1
    refine (HFW.out _ 20 _ X0.out.2).mono ?_
    rintro e w1 ⟨b, rfl, hb⟩
    have HB1 := Lib.hid (belowNext HB0.out hb)
    have hX0 := X0.out.step hb
    clear X0
    have X0 := Lib.hid hX0
    clear hX0
    clear HB0
    clear hb
    cases b
    case false =>
      go_wp2_with fail
      refine (HAW.out _ HB1.out).mono ?_
      rintro e w2 ⟨rfl, hb⟩
      have HB2 := Lib.hid (belowNext HB1.out hb)
      have hX0 := X0.out.step hb
      clear X0
      have X0 := Lib.hid hX0
      clear hX0
      clear HB1
      clear hb
      go_wp2
      go_ret
      exact ⟨rfl, HB2.out⟩
    case true =>
      have x0_0 := X0.out.1.c0
      have x0_1 := X0.out.1.c1
      go_wp2_with fail
      clear x0_0 x0_1
      refine (HCP.out _ _ X0.out.2).mono ?_
      rintro e w2 ⟨rfl, hb⟩
      have HB2 := Lib.hid (belowNext HB1.out hb)
      have hX0 := X0.out.step hb
      clear X0
      have X0 := Lib.hid hX0
      clear hX0
      clear HB1
      clear hb
      have x0_0 := X0.out.1.c0
      have x0_1 := X0.out.1.c1
      go_wp2_with fail
      clear x0_0 x0_1
      refine (HN2.out _ _ HB2.out X0.out.2).mono ?_
      rintro e w3 ⟨B1, k1, e1, B2, k2, e2, rfl, hq, hb⟩
      have HB3 := Lib.hid (belowNext HB2.out hb)
      have hX0 := X0.out.step hb
      clear X0
      have X0 := Lib.hid hX0
      clear hX0
      clear HB2
      clear hb
      have hb : Below w3.heap.size w3 (w3.alloc (.cells #[.slice B1 k1 e1, .slice B2 k2 e2] 25)) := (Below.refl _ w3).alloc (Nat.le_refl _) _
      have HB4 := Lib.hid (belowNext HB3.out hb)
      have hX0 := X0.out.step hb
      clear X0
      have X0 := Lib.hid hX0
      clear hX0
      clear HB3
      have X1 := Lib.hid (BoxP.made hq)
      clear hb hq
      have x0_0 := X0.out.1.c0
      have x0_1 := X0.out.1.c1
      go_wp2_with fail
      clear x0_0 x0_1
      generalize w3.alloc (.cells #[.slice B1 k1 e1, .slice B2 k2 e2] 25) = w4 at *
      generalize w3.heap.size = GX1 at *
      refine (HPS.out _ _ HB4.out X0.out.2).mono ?_
      rintro e w5 ⟨BL, cL, rfl, hl, hb⟩
      have HB5 := Lib.hid (belowNext HB4.out hb)
      have hX0 := X0.out.step hb
      clear X0
      have X0 := Lib.hid hX0
      clear hX0
      have hX1 := X1.out.step hb
      clear X1
      have X1 := Lib.hid hX1
      clear hX1
      clear HB4
      clear hb hl
      go_wp2_with fail
      refine (HAW.out _ HB5.out).mono ?_
      rintro e w9 ⟨rfl, hb⟩
      have HB6 := Lib.hid (belowNext HB5.out hb)
      have hX0 := X0.out.step hb
      clear X0
      have X0 := Lib.hid hX0
      clear hX0
      have hX1 := X1.out.step hb
      clear X1
      have X1 := Lib.hid hX1
      clear hX1
      clear HB5
      clear hb
      go_wp2
      go_ret
      exact ⟨rfl, HB6.out⟩
  obtain ⟨_, hsn, ha0, han⟩ := postsE_ok hev
  obtain ⟨y, rfl⟩ := Int.eq_ofNat_of_zero_le ha0
  have hy : y < P.cells.length := by omega
  have hle := hok.le
  have hagn := hok.ag
  have hpos := hok.pos
  have hV : annV P (y : Int) s = annP P y s := by unfold annV; rw [if_pos hev]; rfl
  have hLL : postsL P (y : Int) s = postL P y s := by unfold postsL; rw [if_pos hev]; rfl
  rw [hV, hev] at HN1
  rw [hLL, hev, postL_len] at HPS
  have hqn := ann_cells P y s
  have hqok := ann_ok (a := y) (s := s) hok
  have HN2 : Hid (∀ (u : Value) (W : World), Below w.heap.size w W → PrR W W.heap.size u P → Calls Tryd.prog 29 #[u, .int .i64 (y : Int), .int .u64 (s : Int)] W fun e w' => ∃ B1 e1 B2 e2, e = .returned (.tuple #[.agg #[.slice B1 P.wt.length e1, .slice B2 P.cells.length e2], .int .i64 0]) ∧ PrR w' w'.heap.size (.agg #[.slice B1 P.wt.length e1, .slice B2 P.cells.length e2]) (annP P y s) ∧ Below W.heap.size W w') := Lib.hid (fun u W hb h => (HN1.out u W hb h).mono fun e w' h => by
    obtain ⟨v', rfl, h2, _, h4⟩ := h
    obtain ⟨B1, e1, B2, e2, rfl, _⟩ := h2.ex
    rw [hqn] at h2 ⊢
    exact ⟨B1, e1, B2, e2, rfl, h2, h4⟩)
  have HRF : Hid (∀ k, k < P.cells.length → ∀ (K0 K1 : Option Addr) (d0 d1 : Nat) (W : World), Reads W W.heap.size 1 K1 P.wt.length (ints ((annP P y s).cells.getD k [])) → Reads W W.heap.size 1 K0 P.wt.length (ints (P.cells.getD k [])) → Calls Tryd.prog 38 #[.slice K1 P.wt.length d1, .slice K0 P.wt.length d0] W fun e w' => e = .returned (.bool true) ∧ Below W.heap.size W w') := Lib.hid (fun k hk K0 K1 d0 d1 W h1 h0 => by
    refine (refines_any ((annP P y s).cells.getD k []) (P.cells.getD k []) K1 K0 P.wt.length d1 d0 W h1 h0 hle (hqok.can (a := k) (by rw [hqn]; exact hk)).ok (hok.can hk).ok).mono ?_
    rintro e w' ⟨⟨bb, rfl, hb⟩, h2⟩
    have : bb = true := hb.2 (ann_ref hok hk)
    subst this
    exact ⟨rfl, h2⟩)
  have HSM : Hid (∀ k u, k < P.cells.length → u < P.wt.length → ∃ f : Nat, ((annP P y s).cells.getD k []).getD u 0 = (f : Int) ∧ f < P.wt.length ∧ (postL P y s).getD f (0, 0) = (postL P y s).getD u (0, 0)) := Lib.hid (fun k u hk hu => by
    obtain ⟨f, h1, h2, h3⟩ := ann_same (a := y) (s := s) hok hk hu
    exact ⟨f, h1, h2, by rw [postL_at P y s h2, postL_at P y s hu, h3]⟩)
  have HR0 : Hid (∀ (W : World) k, k < P.cells.length → BoxP W w.heap.size (.slice A1 P.wt.length c1) (.slice A2 P.cells.length c2) P → ∃ ad Ak ck, A2 = some ad ∧ ∀ W', Below W.heap.size W W' → W'.cell? (ad.add k) = some (.slice (some Ak) P.wt.length ck) ∧ Reads W' W'.heap.size 1 (some Ak) P.wt.length (ints (P.cells.getD k []))) := Lib.hid (fun W k hk h => h.row hok rfl hk)
  have HR1 : Hid (∀ (W : World) g k B1 e1 B2 e2, k < P.cells.length → BoxP W g (.slice B1 P.wt.length e1) (.slice B2 P.cells.length e2) (annP P y s) → ∃ ad Ak ck, B2 = some ad ∧ ∀ W', Below W.heap.size W W' → W'.cell? (ad.add k) = some (.slice (some Ak) P.wt.length ck) ∧ Reads W' W'.heap.size 1 (some Ak) P.wt.length (ints ((annP P y s).cells.getD k []))) := Lib.hid (fun W g k B1 e1 B2 e2 hk h => h.row hqok rfl (by rw [hqn]; exact hk))
  have HCQ := Lib.hid (HCK.out (annP P y s))
  rw [hqok.chk] at HCQ
  clear HN1 hck hok hev hV hLL hqn hqok HCK hsn ha0 han
  generalize annP P y s = Q at *
  generalize postL P y s = L at *
  generalize hn : P.wt.length = n at *
  generalize hm : P.cells.length = m at *
  clear hn hm
  go_enter Tryd.func10, Tryd.ntmps10
  have x0_0 := X0.out.1.c0
  have x0_1 := X0.out.1.c1
  go_wp2_with fail
  clear x0_0 x0_1
  refine (HFW.out _ 20 _ X0.out.2).mono ?_
  rintro e w1 ⟨b, rfl, hb⟩
  have HB1 := Lib.hid (belowNext HB0.out hb)
  have hX0 := X0.out.step hb
  clear X0
  have X0 := Lib.hid hX0
  clear hX0
  clear HB0
  clear hb
  cases b
  case false =>
    go_wp2_with fail
    refine (HAW.out _ HB1.out).mono ?_
    rintro e w2 ⟨rfl, hb⟩
    have HB2 := Lib.hid (belowNext HB1.out hb)
    have hX0 := X0.out.step hb
    clear X0
    have X0 := Lib.hid hX0
    clear hX0
    clear HB1
    clear hb
    go_wp2
    go_ret
    exact ⟨rfl, HB2.out⟩
  case true =>
    have x0_0 := X0.out.1.c0
    have x0_1 := X0.out.1.c1
    go_wp2_with fail
    clear x0_0 x0_1
    refine (HCP.out _ _ X0.out.2).mono ?_
    rintro e w2 ⟨rfl, hb⟩
    have HB2 := Lib.hid (belowNext HB1.out hb)
    have hX0 := X0.out.step hb
    clear X0
    have X0 := Lib.hid hX0
    clear hX0
    clear HB1
    clear hb
    have x0_0 := X0.out.1.c0
    have x0_1 := X0.out.1.c1
    go_wp2_with fail
    clear x0_0 x0_1
    refine (HN2.out _ _ HB2.out X0.out.2).mono ?_
    rintro e w3 ⟨B1, e1, B2, e2, rfl, hq, hb⟩
    have HB3 := Lib.hid (belowNext HB2.out hb)
    have hX0 := X0.out.step hb
    clear X0
    have X0 := Lib.hid hX0
    clear hX0
    clear HB2
    clear hb
    have hb : Below w3.heap.size w3 (w3.alloc (.cells #[.slice B1 n e1, .slice B2 m e2] 25)) := (Below.refl _ w3).alloc (Nat.le_refl _) _
    have HB4 := Lib.hid (belowNext HB3.out hb)
    have hX0 := X0.out.step hb
    clear X0
    have X0 := Lib.hid hX0
    clear hX0
    clear HB3
    have X1 := Lib.hid (BoxP.made hq)
    clear hb hq
    have x0_0 := X0.out.1.c0
    have x0_1 := X0.out.1.c1
    go_wp2_with fail
    clear x0_0 x0_1
    generalize w3.alloc (.cells #[.slice B1 n e1, .slice B2 m e2] 25) = w4 at *
    generalize w3.heap.size = GX1 at *
    refine (HPS.out _ _ HB4.out X0.out.2).mono ?_
    rintro e w5 ⟨BL, cL, rfl, hl, hb⟩
    have HB5 := Lib.hid (belowNext HB4.out hb)
    have hX0 := X0.out.step hb
    clear X0
    have X0 := Lib.hid hX0
    clear hX0
    have hX1 := X1.out.step hb
    clear X1
    have X1 := Lib.hid hX1
    clear hX1
    clear HB4
    have L1 := Lib.hid hl
    clear hb hl
    have x0_0 := X0.out.1.c0
    have x0_1 := X0.out.1.c1
    have x1_0 := X1.out.1.c0
    have x1_1 := X1.out.1.c1
    go_wp2
    clear HFW HCP HN2 HPS
    go_loopw [62] (fun i wr => ∃ k : Nat, k ≤ m ∧ i = .int .i64 (k : Int) ∧ Hid (Below w.heap.size w wr ∧ BoxP wr w.heap.size (.slice A1 n c1) (.slice A2 m c2) P ∧ BoxP wr GX1 (.slice B1 n e1) (.slice B2 m e2) Q ∧ LstF wr BL n L)) (fun i _ => m - (intOf i).toNat)
    case atStart => exact ⟨0, Nat.zero_le _, rfl, Lib.hid ⟨HB5.out, X0.out, X1.out, L1.out⟩⟩
    case round =>
      clear x0_0 x0_1 x1_0 x1_1 X0 X1 L1
      obtain ⟨k, hk, rfl, HI⟩ := hrel
      by_cases hlt : k < m
      · obtain ⟨ad0, K0, d0, rfl, hX0⟩ := HR0.out wr k hlt HI.out.2.1
        obtain ⟨ad1, K1, d1, rfl, hX1⟩ := HR1.out wr GX1 k _ _ _ _ hlt HI.out.2.2.1
        have HS := Lib.hid (fun W hb => HRF.out k hlt (some K0) (some K1) d0 d1 W (hX1 W hb).2 (hX0 W hb).2)
        have HU : Hid (∀ W, Below wr.heap.size wr W → W.cell? ⟨w.heap.size, 1, none⟩ = some (.slice (some ad0) m c2) ∧ W.cell? ⟨GX1, 1, none⟩ = some (.slice (some ad1) m e2) ∧ W.cell? (ad0.add k) = some (.slice (some K0) n d0) ∧ W.cell? (ad1.add k) = some (.slice (some K1) n d1) ∧ True) := Lib.hid (fun W hb => ⟨(HI.out.2.1.step hb).1.c1, (HI.out.2.2.1.step hb).1.c1, (hX0 W hb).1, (hX1 W hb).1, trivial⟩)
        go_wp2
        refine wp_region_wild [.pointer (some ⟨GX1, 1, none⟩), .slice (some ad1) m e2, .int .i64 (k : Int), .pointer (some (ad1.add k)), .slice (some K1) n d1, .pointer (some ⟨w.heap.size, 1, none⟩), .slice (some ad0) m c2, .int .i64 (k : Int), .pointer (some (ad0.add k)), .slice (some K0) n d0, .bool true, .bool false, .bool false, .pointer (some ⟨GX1, 1, none⟩), .slice (some ad1) m e2, .int .i64 (k : Int), .pointer (some (ad1.add k)), .slice (some K1) n d1, .int .i64 (n : Int), .slice BL n cL, .int .i64 (n : Int), .bool false, .bool false] [65, 66, 67, 68, 69, 70, 71, 72, 73, 74, 75, 76, 77, 78, 79, 80, 81, 82, 83, 84, 85, 86, 87] [0, 1, 3, 4, 5, 6, 8, 9, 10, 13, 14, 16, 17, 18, 20, 21] [] (fun _ _ _ => False) (fun W => Below wr.heap.size wr W) (fun W W' => Below W.heap.size W W') 23 126 rfl rfl rfl (by decide) (by decide) (by kernel_rfl) (by kernel_rfl) (by kernel_rfl) (by kernel_rfl) (fun W => Below.refl _ W) (fun W1 W2 W3 h1 h2 => h1.trans (h2.mono h1.size)) (fun W W' h h2 => h.trans (h2.mono h.size)) (fun _ _ _ _ h _ => h) (Below.refl wr.heap.size wr).drew (by kernel_rfl) [] rfl ?hop ?fin
        case hop =>
          refine (And.intro ?s0 (And.intro ?s1 (And.intro ?s3 (And.intro ?s4 (And.intro ?s5 (And.intro ?s6 (And.intro ?s8 (And.intro ?s9 (And.intro ?s10 (And.intro ?s13 (And.intro ?s14 (And.intro ?s16 (And.intro ?s17 (And.intro ?s18 (And.intro ?s20 (And.intro ?s21 (trivial)))))))))))))))))
          case s0 =>
            refine And.intro (by rfl) (fun tm W hS hsz hfr hdep K hK => ?_)
            change tm.size = 126 at hsz
            have t7 : tm.getD 7 undef = .pointer (some ⟨GX1, 0, none⟩) := hfr 7 (by rfl)
            obtain ⟨y0, y1, y2, y3, _⟩ := HU.out W hS
            clear hdep hfr
            go_simp
            exact hK _ W (Below.refl _ W) (wildV_of (by rfl))
          case s1 =>
            refine And.intro (by rfl) (fun tm W hS hsz hfr hdep K hK => ?_)
            change tm.size = 126 at hsz
            have t65 : tm.getD 65 undef = .pointer (some ⟨GX1, 1, none⟩) := wildV_known (by rfl) (hdep 0 (by rfl) (by decide))
            have t7 : tm.getD 7 undef = .pointer (some ⟨GX1, 0, none⟩) := hfr 7 (by rfl)
            obtain ⟨y0, y1, y2, y3, _⟩ := HU.out W hS
            clear hdep hfr
            go_simp
            exact hK _ W (Below.refl _ W) (wildV_of (by rfl))
          case s3 =>
            refine And.intro (by rfl) (fun tm W hS hsz hfr hdep K hK => ?_)
            change tm.size = 126 at hsz
            have t66 : tm.getD 66 undef = .slice (some ad1) m e2 := wildV_known (by rfl) (hdep 1 (by rfl) (by decide))
            have t67 : tm.getD 67 undef = .int .i64 (k : Int) := wildV_known (by rfl) (hdep 2 (by rfl) (by decide))
            clear hdep hfr
            go_simp
            exact hK _ W (Below.refl _ W) (wildV_of (by rfl))
          case s4 =>
            refine And.intro (by rfl) (fun tm W hS hsz hfr hdep K hK => ?_)
            change tm.size = 126 at hsz
            have t68 : tm.getD 68 undef = .pointer (some (ad1.add k)) := wildV_known (by rfl) (hdep 3 (by rfl) (by decide))
            have t3 : tm.getD 3 undef = .pointer (some ⟨w.heap.size, 0, none⟩) := hfr 3 (by rfl)
            obtain ⟨y0, y1, y2, y3, _⟩ := HU.out W hS
            clear hdep hfr
            go_simp
            exact hK _ W (Below.refl _ W) (wildV_of (by rfl))
          case s5 =>
            refine And.intro (by rfl) (fun tm W hS hsz hfr hdep K hK => ?_)
            change tm.size = 126 at hsz
            have t3 : tm.getD 3 undef = .pointer (some ⟨w.heap.size, 0, none⟩) := hfr 3 (by rfl)
            obtain ⟨y0, y1, y2, y3, _⟩ := HU.out W hS
            clear hdep hfr
            go_simp
            exact hK _ W (Below.refl _ W) (wildV_of (by rfl))
          case s6 =>
            refine And.intro (by rfl) (fun tm W hS hsz hfr hdep K hK => ?_)
            change tm.size = 126 at hsz
            have t70 : tm.getD 70 undef = .pointer (some ⟨w.heap.size, 1, none⟩) := wildV_known (by rfl) (hdep 5 (by rfl) (by decide))
            have t3 : tm.getD 3 undef = .pointer (some ⟨w.heap.size, 0, none⟩) := hfr 3 (by rfl)
            obtain ⟨y0, y1, y2, y3, _⟩ := HU.out W hS
            clear hdep hfr
            go_simp
            exact hK _ W (Below.refl _ W) (wildV_of (by rfl))
          case s8 =>
            refine And.intro (by rfl) (fun tm W hS hsz hfr hdep K hK => ?_)
            change tm.size = 126 at hsz
            have t71 : tm.getD 71 undef = .slice (some ad0) m c2 := wildV_known (by rfl) (hdep 6 (by rfl) (by decide))
            have t72 : tm.getD 72 undef = .int .i64 (k : Int) := wildV_known (by rfl) (hdep 7 (by rfl) (by decide))
            clear hdep hfr
            go_simp
            exact hK _ W (Below.refl _ W) (wildV_of (by rfl))
          case s9 =>
            refine And.intro (by rfl) (fun tm W hS hsz hfr hdep K hK => ?_)
            change tm.size = 126 at hsz
            have t73 : tm.getD 73 undef = .pointer (some (ad0.add k)) := wildV_known (by rfl) (hdep 8 (by rfl) (by decide))
            have t3 : tm.getD 3 undef = .pointer (some ⟨w.heap.size, 0, none⟩) := hfr 3 (by rfl)
            obtain ⟨y0, y1, y2, y3, _⟩ := HU.out W hS
            clear hdep hfr
            go_simp
            exact hK _ W (Below.refl _ W) (wildV_of (by rfl))
          case s10 =>
            refine And.intro (by rfl) (fun tm W hS hsz hfr hdep K hK => ?_)
            change tm.size = 126 at hsz
            have t69 : tm.getD 69 undef = .slice (some K1) n d1 := wildV_known (by rfl) (hdep 4 (by rfl) (by decide))
            have t74 : tm.getD 74 undef = .slice (some K0) n d0 := wildV_known (by rfl) (hdep 9 (by rfl) (by decide))
            clear hdep hfr
            refine wp_call _ _ _ _ _ rfl rfl (by simp [Act.eval, t69, t74]) (by kernel_rfl) (HS.out W hS) (fun e W9 h9 => ?_)
            obtain ⟨rfl, hb9⟩ := h9
            exact ⟨_, rfl, hK _ W9 hb9 (wildV_of (by rfl))⟩
          case s13 =>
            refine And.intro (by rfl) (fun tm W hS hsz hfr hdep K hK => ?_)
            change tm.size = 126 at hsz
            have t7 : tm.getD 7 undef = .pointer (some ⟨GX1, 0, none⟩) := hfr 7 (by rfl)
            obtain ⟨y0, y1, y2, y3, _⟩ := HU.out W hS
            clear hdep hfr
            go_simp
            exact hK _ W (Below.refl _ W) (wildV_of (by rfl))
          case s14 =>
            refine And.intro (by rfl) (fun tm W hS hsz hfr hdep K hK => ?_)
            change tm.size = 126 at hsz
            have t78 : tm.getD 78 undef = .pointer (some ⟨GX1, 1, none⟩) := wildV_known (by rfl) (hdep 13 (by rfl) (by decide))
            have t7 : tm.getD 7 undef = .pointer (some ⟨GX1, 0, none⟩) := hfr 7 (by rfl)
            obtain ⟨y0, y1, y2, y3, _⟩ := HU.out W hS
            clear hdep hfr
            go_simp
            exact hK _ W (Below.refl _ W) (wildV_of (by rfl))
          case s16 =>
            refine And.intro (by rfl) (fun tm W hS hsz hfr hdep K hK => ?_)
            change tm.size = 126 at hsz
            have t79 : tm.getD 79 undef = .slice (some ad1) m e2 := wildV_known (by rfl) (hdep 14 (by rfl) (by decide))
            have t80 : tm.getD 80 undef = .int .i64 (k : Int) := wildV_known (by rfl) (hdep 15 (by rfl) (by decide))
            clear hdep hfr
            go_simp
            exact hK _ W (Below.refl _ W) (wildV_of (by rfl))
          case s17 =>
            refine And.intro (by rfl) (fun tm W hS hsz hfr hdep K hK => ?_)
            change tm.size = 126 at hsz
            have t81 : tm.getD 81 undef = .pointer (some (ad1.add k)) := wildV_known (by rfl) (hdep 16 (by rfl) (by decide))
            have t3 : tm.getD 3 undef = .pointer (some ⟨w.heap.size, 0, none⟩) := hfr 3 (by rfl)
            obtain ⟨y0, y1, y2, y3, _⟩ := HU.out W hS
            clear hdep hfr
            go_simp
            exact hK _ W (Below.refl _ W) (wildV_of (by rfl))
          case s18 =>
            refine And.intro (by rfl) (fun tm W hS hsz hfr hdep K hK => ?_)
            change tm.size = 126 at hsz
            have t82 : tm.getD 82 undef = .slice (some K1) n d1 := wildV_known (by rfl) (hdep 17 (by rfl) (by decide))
            clear hdep hfr
            go_simp
            exact hK _ W (Below.refl _ W) (wildV_of (by rfl))
          case s20 =>
            refine And.intro (by rfl) (fun tm W hS hsz hfr hdep K hK => ?_)
            change tm.size = 126 at hsz
            have t84 : tm.getD 84 undef = .slice BL n cL := wildV_known (by rfl) (hdep 19 (by rfl) (by decide))
            clear hdep hfr
            go_simp
            exact hK _ W (Below.refl _ W) (wildV_of (by rfl))
          case s21 =>
            refine And.intro (by rfl) (fun tm W hS hsz hfr hdep K hK => ?_)
            change tm.size = 126 at hsz
            have t83 : tm.getD 83 undef = .int .i64 (n : Int) := wildV_known (by rfl) (hdep 18 (by rfl) (by decide))
            have t85 : tm.getD 85 undef = .int .i64 (n : Int) := wildV_known (by rfl) (hdep 20 (by rfl) (by decide))
            clear hdep hfr
            go_simp
            exact hK _ W (Below.refl _ W) (wildV_of (by rfl))
        case fin =>
          intro f W hS hV
          have hvl : ((List.range 23).map (fun i => if ([] : List Nat).contains i then f i else ([.pointer (some ⟨GX1, 1, none⟩), .slice (some ad1) m e2, .int .i64 (k : Int), .pointer (some (ad1.add k)), .slice (some K1) n d1, .pointer (some ⟨w.heap.size, 1, none⟩), .slice (some ad0) m c2, .int .i64 (k : Int), .pointer (some (ad0.add k)), .slice (some K0) n d0, .bool true, .bool false, .bool false, .pointer (some ⟨GX1, 1, none⟩), .slice (some ad1) m e2, .int .i64 (k : Int), .pointer (some (ad1.add k)), .slice (some K1) n d1, .int .i64 (n : Int), .slice BL n cL, .int .i64 (n : Int), .bool false, .bool false] : List Value).getD i undef)) = [.pointer (some ⟨GX1, 1, none⟩), .slice (some ad1) m e2, .int .i64 (k : Int), .pointer (some (ad1.add k)), .slice (some K1) n d1, .pointer (some ⟨w.heap.size, 1, none⟩), .slice (some ad0) m c2, .int .i64 (k : Int), .pointer (some (ad0.add k)), .slice (some K0) n d0, .bool true, .bool false, .bool false, .pointer (some ⟨GX1, 1, none⟩), .slice (some ad1) m e2, .int .i64 (k : Int), .pointer (some (ad1.add k)), .slice (some K1) n d1, .int .i64 (n : Int), .slice BL n cL, .int .i64 (n : Int), .bool false, .bool false] := by rfl
          rw [hvl]
          clear hvl hV
          have HS9 := Lib.hid hS
          clear hS
          simp only [fillD]
          go_simp
          have HI6 := Lib.hid (⟨belowNext HI.out.1 HS9.out, HI.out.2.1.step HS9.out, HI.out.2.2.1.step HS9.out, HI.out.2.2.2.step HS9.out⟩ : _ ∧ _ ∧ _ ∧ _)
          have z0 := HI6.out.2.2.1.1.c1
          have z1 := ((hX1 _ HS9.out).1)
          have HRW := Lib.hid (fun W (hb : Below wr.heap.size wr W) => (hX1 W hb).2)
          clear HS HI
          go_wp2
          generalize hw6 : W = w6 at *
          clear hw6
          go_loopw [94] (fun i wq => ∃ u : Nat, u ≤ n ∧ i = .int .i64 (u : Int) ∧ Hid (Below w6.heap.size w6 wq)) (fun i _ => n - (intOf i).toNat)
          case atStart => exact ⟨0, Nat.zero_le _, rfl, Lib.hid (Below.refl _ w6)⟩
          case round =>
            clear z0 z1
            obtain ⟨u, hu, rfl, HQ⟩ := hrel
            by_cases hlu : u < n
            · obtain ⟨f, hf1, hf2, hf3⟩ := HSM.out k u hlt hlu
              have hrr := HRW.out wr (belowNext HS9.out HQ.out)
              have z3 : wr.cell? (K1.add u) = some (.int .i64 (f : Int)) := by
                obtain ⟨ak, e9, _, h9⟩ := hrr.int_at hlu
                injection e9 with e9
                subst e9
                rw [h9, hf1]
              obtain ⟨b1, o1, eA, hA⟩ := HI6.out.2.2.2.at_ hlu
              obtain ⟨b2, o2, eB, hB⟩ := HI6.out.2.2.2.at_ hf2
              rw [eA] at eB
              injection eB with eB
              injection eB with eB eC
              subst eA eB eC
              have l0 := (hA _ HQ.out).1
              have l1 := (hA _ HQ.out).2
              have l2 := (hB _ HQ.out).1
              have l3 := (hB _ HQ.out).2
              rw [hf3] at l2 l3
              generalize L.getD u (0, 0) = pq at *
              obtain ⟨p1, p2⟩ := pq
              dsimp only at l0 l1 l2 l3
              have hneq := fun W => neqFr (p1, p2) (p1, p2) W
              rw [show eqQ (p1, p2) (p1, p2) = true by unfold eqQ; exact decide_eq_true rfl] at hneq
              dsimp only at hneq
              have d1 : decide ((f : Int) < 0) = false := by simp
              have d2 : decide (n ≤ f) = false := decide_eq_false (by omega)
              clear hrr hA hB hf1 hf3
              go_wp2
              go_quiet (fail)
              go_wp2
              go_roundw
              case rel => exact ⟨u + 1, by omega, by go_num, Lib.hid (below_drewN HQ.out nq)⟩
              case measure => first | (simp [intOf]; done) | (simp [intOf]; omega)
            · obtain rfl : u = n := by omega
              go_wp2
              go_roundw
              case rel => exact ⟨k + 1, by omega, by go_num, Lib.hid ⟨belowNext HI6.out.1 HQ.out, HI6.out.2.1.step HQ.out, HI6.out.2.2.1.step HQ.out, HI6.out.2.2.2.step HQ.out⟩⟩
              case measure => first | (simp [intOf]; done) | (simp [intOf]; omega)
      · obtain rfl : k = m := by omega
        have z0 := HI.out.2.2.1.1.c0
        have z1 := HI.out.2.2.1.1.c1
        go_wp2_with fail
        refine (HCQ.out _ _ HI.out.2.2.1.2).mono ?_
        rintro e w6 ⟨rfl, hb⟩
        have HB6 := Lib.hid (belowNext HI.out.1 hb)
        clear hb z0 z1
        go_wp2_with fail
        refine (HAW.out _ HB6.out).mono ?_
        rintro e w7 ⟨rfl, hb⟩
        have HBZ := Lib.hid (belowNext HB6.out hb)
        clear hb
        go_wp2
        go_ret
        exact ⟨rfl, HBZ.out⟩
set_option maxRecDepth 100000 in
theorem contract (H : Type) (enc : TypeId × Value → H) (W : World) (base : Nat) (args : Array Value) (ds gs : List (DataW H)) (before : List MemPlace)
    (hval : ∀ (j : Nat) t v, Tryd.f10.params[j]? = some t → args[j]? = some v → Value.okWide Tryd.prog W .any base t v)
    (hW : DataW.Whole enc Tryd.prog Tryd.f10.params.toList Rows.agreementDividesSpec.vars false W args.toList ds gs before) (hE : Tab W ∧ FinW W) :
    Calls Tryd.prog 10 args W fun e W' => ∃ v, e = .returned v ∧ Rows.agreementDividesSpec.post enc Tryd.prog Tryd.f10 false true false false W args v W' := by
  have hW' := hW
  obtain ⟨p, q, hA0, hV, rfl, hfz, hnd⟩ := hW
  have hA : DataW.TrodAll enc Tryd.prog W 0 (fun _ => true) true Tryd.f10.params.toList args.toList ds p := hA0
  rw [Tryd.params10] at hA hval
  obtain ⟨v0, vs0, d0, ds0, p0, q0, hargs, rfl, rfl, h0, r0⟩ := trodAll_cons hA
  obtain ⟨v1, vs1, d1, ds1, p1, q1, rfl, rfl, rfl, h1, r1⟩ := trodAll_cons r0
  obtain ⟨v2, vs2, d2, ds2, p2, q2, rfl, rfl, rfl, h2, r2⟩ := trodAll_cons r1
  obtain ⟨rfl, rfl, rfl⟩ := trodAll_nil r2
  obtain rfl : args = #[v0, v1, v2] := by cases args; simp_all
  obtain ⟨rfl, rfl⟩ := trodVars_none hV
  obtain ⟨P0, w0⟩ := open_prior (hval 0 25 v0 rfl rfl) h0
  have k0 := h0
  have lt0 : ∀ x ∈ p0, x.block < W.heap.size := by obtain ⟨m, hm⟩ := k0; exact DataW.trod_lt m _ _ _ hm
  obtain ⟨g1, rfl, rfl, rfl, w1⟩ := open_int Tryd.underlying3 (hval 1 3 v1 rfl rfl) h1
  obtain ⟨g2, rfl, rfl, rfl, w2⟩ := open_int Tryd.underlying28 (hval 2 28 v2 rfl rfl) h2
  obtain ⟨g2, rfl, hu2⟩ : ∃ n : Nat, g2 = (n : Int) ∧ n < 18446744073709551616 := by have hz := w2; have q1 : IntKind.u64.min = 0 := rfl; have q2 : IntKind.u64.max = 18446744073709551615 := rfl; simp [Lit.wf] at hz; exact ⟨g2.toNat, by omega, by omega⟩
  clear hA0
  simp only [List.append_nil] at hW'
  have hwalk := walk P0 v0 g1 g2 W w0 hu2 hE
  refine hwalk.mono fun e W' ⟨he, hg⟩ => ?_
  subst he
  exact ⟨_, rfl, _, _, _, [], _, [], hW', trodAll_mk1 (shut_bool Tryd.underlying4 _), (trodAll_cons_mk (Below.trod laidOut (by kernel_rfl) (of_decide_eq_true (by kernel_rfl)) k0 hg lt0) (trodAll_cons_mk (shut_int Tryd.underlying3 w1) (trodAll_cons_mk (shut_int Tryd.underlying28 w2) trodAll_mk0))), rfl, hg.frame _, fun h => by cases h⟩
theorem reads (os : Os) {H : Type} (enc : TypeId × Value → H) : ∃ places, DataW.whole enc Tryd.prog ((laidW os).forCall (fun _ _ => 0) ⟨#[], #[.agg #[.slice none 0 0, .slice none 0 0], .int .i64 0, .int .u64 0], []⟩).memory Tryd.f10.params.toList Rows.agreementDividesSpec.vars false #[(.agg #[.slice none 0 0, .slice none 0 0] : Value), (.int .i64 0 : Value), (.int .u64 0 : Value)].toList 8 = some ([.agg [.nil, .nil], .lit (.int .i64 0), .lit (.int .u64 0)], [], places) :=
  ⟨[], by kernel_rfl⟩
set_option maxRecDepth 100000 in
theorem lifted (os : Os) (started : os.Started) (H : Type) (enc : TypeId × Value → H) (F : Stop.Interp) :
    ReturnsInHanded {} Tryd.checked os 10 .any ((OpenSpec.ofChange Rows.agreementDividesSpec).preRow enc Tryd.prog Tryd.f10 Rows.agreementDividesRow.domain false Rows.agreementDividesRow.laid) (((OpenSpec.ofChange Rows.agreementDividesSpec).at F).post enc Tryd.prog Tryd.f10 false true false false) := by
  obtain ⟨places, hx⟩ := reads os enc
  refine returnsInHanded_of_row (C := Tryd.checked) (s := OpenSpec.ofChange Rows.agreementDividesSpec) own started (by kernel_rfl) Tryd.func10
    (witness_row_atRef (enc := enc) (C := Tryd.checked) false (laidW os) #[.agg #[.slice none 0 0, .slice none 0 0], .int .i64 0, .int .u64 0] (laidW_os os) (vars_ok os _) (heap_ok os _) (by kernel_rfl)
      (OpenSpec.preRow_of_cond 8 hx (by kernel_rfl) (fun k hk => by cases hk) (by kernel_rfl) (laid_met os _))) ?_
  intro W base args ds gs before hval hW _ _ _ hL hsh _
  exact contract H enc W base args ds gs before hval hW (env_of hL)
theorem said : Rows.AgreementDividesSaid :=
  OpenClaim.holds_of_cond 10 Tryd.f10 rfl rfl rfl rfl rfl rfl rfl ⟨rfl, rfl, rfl, rfl, rfl⟩ rfl rfl rfl rfl rfl (by kernel_rfl) Tryd.func10 (by kernel_rfl)
    (of_decide_eq_true (by kernel_rfl)) (by unfold Func.isWrapper; first | (rw [if_pos (by decide +kernel)]; kernel_rfl) | (rw [if_neg (by decide +kernel)]; exact ⟨rfl, rfl⟩))
    (fun os started H enc _ F => by rw [OpenClaim.pre_eq_preRow]; exact lifted os started H enc F)
theorem plain (f : FuncId) (fn : Func) (hf : Tryd.pinned.checked.prog.funcNamed "witting/wittinglaw24.AgreementDivides" = some f) (hfn : Tryd.pinned.checked.prog.funcs[f]? = some fn) :
    false = Tryd.pinned.checked.prog.looks [] ∧ ∀ (j : Nat) t, fn.params[j]? = some t → Tryd.pinned.checked.prog.wantsStandIn t = false := by
  obtain rfl : f = 10 := Option.some.inj ((show Tryd.prog.funcNamed "witting/wittinglaw24.AgreementDivides" = some 10 by kernel_rfl).symm.trans hf) |>.symm
  obtain rfl : fn = Tryd.f10 := (Option.some.inj (Tryd.func10.symm.trans hfn)).symm
  refine ⟨no_looks, fun j t ht => ?_⟩
  rw [Tryd.params10] at ht
  have hm : t ∈ [25, 3, 28] := by simpa using Array.mem_of_getElem? ht
  have hall : ([25, 3, 28].all fun u => !Tryd.prog.wantsStandIn u) = true := by kernel_rfl
  exact (show Tryd.prog.wantsStandIn t = false by simpa using List.all_eq_true.1 hall t hm)
theorem card : Rows.AgreementDividesCardSaid :=
  Claim7.holds_tied_plain_at .later [] _ _ _ _ said (fun _ h => by cases h) (by kernel_rfl) (fun _ h => by cases h) agreementDivides_row_tie rfl ⟨rfl, rfl⟩ (by kernel_rfl) rfl plain (by kernel_rfl)
#print axioms card
end Go.Proofs.YtfbgabcdeecpoaaDoor.agreementDivides
