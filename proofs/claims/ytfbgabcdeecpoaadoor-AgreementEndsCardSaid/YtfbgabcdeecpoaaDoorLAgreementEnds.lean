/- Layer 24: AgreementEnds. -/
import Derived.Test.YtfbgabcdeecpoaaDoorNMu
namespace Go.Proofs.YtfbgabcdeecpoaaDoor.agreementEnds
open Go.ChangeShapes Go.WideShapes Go.ChangeAt Go.RowKit Go.Proofs.YtfbgabcdeecpoaaDoor Go.Proofs.YtfbgabcdeecpoaaDoor.agr Go.Proofs.Ws
open Go.ChangeMaps (open_string shut_string)
set_option maxRecDepth 100000
theorem i64_nat (n : Nat) (h : n ≤ 1000000) : IntKind.i64.wrap (n : Int) = (n : Int) := by
  rw [IntWalk.i64_left]
  exact IntWalk.wrap64_in _ ⟨by omega, by omega⟩
set_option maxHeartbeats 8000000 in
theorem walk (P : Pri) (v : Value) (s : Nat) (w : World) (hM : PrR w w.heap.size v P) (hs : s < 18446744073709551616) (hE : EnvW w) :
    Calls Tryd.prog 7 #[v, .int .u64 (s : Int)] w fun e w' => e = .returned (.bool true) ∧ Below w.heap.size w w' := by
  have HFW := Lib.hid (fun (u : Value) (x : Int) (W : World) (h : PrR W W.heap.size u P) => rFew_any P u x W h)
  have HAW := Lib.hid (fun (W : World) (hb : Below w.heap.size w W) => awake_any W (hE.below hb).1 (hE.below hb).2)
  have HCK := Lib.hid (fun (u : Value) (W : World) (h : PrR W W.heap.size u P) => aCheck_any P u W h)
  have HN1 : Hid (∀ (u : Value) (W : World), Below w.heap.size w W → PrR W W.heap.size u P → Calls Tryd.prog 34 #[u, .int .u64 (s : Int)] W fun e w' => ∃ K, KOf P s K ∧ GivesLP (exN P s) K (evE P s) W e w') := Lib.hid (fun u W hb h => (aExchange_any P s u W h hs (hE.below hb).1).mono fun e w' h => h.lp)
  have HAG : Hid (∀ (q : Pri) (x : Nat) (u : Value) (W : World), Below w.heap.size w W → PrR W W.heap.size u q → Calls Tryd.prog 26 #[u, .int .i64 (x : Int), .int .u64 (s : Int)] W fun e w' => e = .returned (.tuple #[.bool (agV q x s), .int .i64 (agE q x s)]) ∧ Below W.heap.size W w') := Lib.hid (fun q x u W hb h => (aAgree_any q u x s W h hs (hE.below hb).1))
  have HSM := Lib.hid same_self
  obtain ⟨A1, c1, A2, c2, rfl, hv, hr⟩ := hM.ex
  have HB0 : Hid (Below w.heap.size w (w.alloc (.cells #[.slice A1 P.wt.length c1, .slice A2 P.cells.length c2] 25))) := Lib.hid ((Below.refl _ w).alloc (Nat.le_refl _) _)
  have X0 := Lib.hid (BoxP.made hM)
  clear hM hv hr hE hs
  by_cases hck : chkP P = 0
  case neg =>
    have hne : (chkP P != 0) = true := by rw [bne_iff_ne]; exact hck
    clear HN1 HAG
    generalize chkP P = E at *
    generalize P.wt.length = n at *
    generalize P.cells.length = m at *
    go_enter Tryd.func7, Tryd.ntmps7
    have x0_0 := X0.out.1.c0
    have x0_1 := X0.out.1.c1
    go_wp2_with fail
    clear x0_0 x0_1
    refine (HFW.out _ 16 _ X0.out.2).mono ?_
    rintro e w1 ⟨b, rfl, hb⟩
    have HB1 := Lib.hid (belowNext HB0.out hb)
    have hX0 := X0.out.step hb
    clear X0
    have X0 := Lib.hid hX0
    clear hX0
    clear HB0
    clear hb
    cases b
    case false =>
      go_wp2_with fail
      refine (HAW.out _ HB1.out).mono ?_
      rintro e w2 ⟨rfl, hb⟩
      have HB2 := Lib.hid (belowNext HB1.out hb)
      have hX0 := X0.out.step hb
      clear X0
      have X0 := Lib.hid hX0
      clear hX0
      clear HB1
      clear hb
      go_wp2
      go_ret
      exact ⟨rfl, HB2.out⟩
    case true =>
      have x0_0 := X0.out.1.c0
      have x0_1 := X0.out.1.c1
      go_wp2_with fail
      clear x0_0 x0_1
      refine (HCK.out _ _ X0.out.2).mono ?_
      rintro e w2 ⟨rfl, hb⟩
      have HB2 := Lib.hid (belowNext HB1.out hb)
      have hX0 := X0.out.step hb
      clear X0
      have X0 := Lib.hid hX0
      clear hX0
      clear HB1
      clear hb
      go_wp2_with fail
      refine (HAW.out _ HB2.out).mono ?_
      rintro e w9 ⟨rfl, hb⟩
      have HB3 := Lib.hid (belowNext HB2.out hb)
      have hX0 := X0.out.step hb
      clear X0
      have X0 := Lib.hid hX0
      clear hX0
      clear HB2
      clear hb
      go_wp2
      go_ret
      exact ⟨rfl, HB3.out⟩
  rw [hck] at HCK
  have hok := chkP_ok hck
  by_cases hev : evE P s = 0
  case neg =>
    have hne : (evE P s != 0) = true := by rw [bne_iff_ne]; exact hev
    have HN2 : Hid (∀ (u : Value) (W : World), Below w.heap.size w W → PrR W W.heap.size u P → Calls Tryd.prog 34 #[u, .int .u64 (s : Int)] W fun e w' => ∃ K A c, e = .returned (.tuple #[.slice A K c, .int .i64 (evE P s)]) ∧ Below W.heap.size W w') := Lib.hid (fun u W hb h => (HN1.out u W hb h).mono fun e w' h => by
      obtain ⟨K, _, A, c, h1, _, h2⟩ := h
      exact ⟨K, A, c, h1, h2⟩)
    clear HN1 HAG hck hok hev
    generalize evE P s = E at *
    generalize P.wt.length = n at *
    generalize P.cells.length = m at *
    go_enter Tryd.func7, Tryd.ntmps7
    have x0_0 := X0.out.1.c0
    have x0_1 := X0.out.1.c1
    go_wp2_with fail
    clear x0_0 x0_1
    refine (HFW.out _ 16 _ X0.out.2).mono ?_
    rintro e w1 ⟨b, rfl, hb⟩
    have HB1 := Lib.hid (belowNext HB0.out hb)
    have hX0 := X0.out.step hb
    clear X0
    have X0 := Lib.hid hX0
    clear hX0
    clear HB0
    clear hb
    cases b
    case false =>
      go_wp2_with fail
      refine (HAW.out _ HB1.out).mono ?_
      rintro e w2 ⟨rfl, hb⟩
      have HB2 := Lib.hid (belowNext HB1.out hb)
      have hX0 := X0.out.step hb
      clear X0
      have X0 := Lib.hid hX0
      clear hX0
      clear HB1
      clear hb
      go_wp2
      go_ret
      exact ⟨rfl, HB2.out⟩
    case true =>
      have x0_0 := X0.out.1.c0
      have x0_1 := X0.out.1.c1
      go_wp2_with fail
      clear x0_0 x0_1
      refine (HCK.out _ _ X0.out.2).mono ?_
      rintro e w2 ⟨rfl, hb⟩
      have HB2 := Lib.hid (belowNext HB1.out hb)
      have hX0 := X0.out.step hb
      clear X0
      have X0 := Lib.hid hX0
      clear hX0
      clear HB1
      clear hb
      have x0_0 := X0.out.1.c0
      have x0_1 := X0.out.1.c1
      go_wp2_with fail
      clear x0_0 x0_1
      refine (HN2.out _ _ HB2.out X0.out.2).mono ?_
      rintro e w3 ⟨K, B, c, rfl, hb⟩
      have HB3 := Lib.hid (belowNext HB2.out hb)
      have hX0 := X0.out.step hb
      clear X0
      have X0 := Lib.hid hX0
      clear hX0
      clear HB2
      clear hb
      go_wp2_with fail
      refine (HAW.out _ HB3.out).mono ?_
      rintro e w9 ⟨rfl, hb⟩
      have HB4 := Lib.hid (belowNext HB3.out hb)
      have hX0 := X0.out.step hb
      clear X0
      have X0 := Lib.hid hX0
      clear hX0
      clear HB3
      clear hb
      go_wp2
      go_ret
      exact ⟨rfl, HB4.out⟩
  have hle := hok.le
  have hagn := hok.ag
  have HN2 : Hid (∀ (u : Value) (W : World), Below w.heap.size w W → PrR W W.heap.size u P → Calls Tryd.prog 34 #[u, .int .u64 (s : Int)] W fun e w' => ∃ j, j ≤ P.wt.length * P.cells.length ∧ (∀ x, x < P.wt.length → agV (exN P s j) (x : Int) s = true ∧ agE (exN P s j) (x : Int) s = 0) ∧ GivesLP (exN P s) (j + 1) 0 W e w') := Lib.hid (fun u W hb h => (HN1.out u W hb h).mono fun e w' h => by
    obtain ⟨K, hK, h1⟩ := h
    have hk := hK.1 hev
    rw [hev] at h1
    obtain ⟨j, rfl⟩ : ∃ j, K = j + 1 := ⟨K - 1, by have := hk.pos; omega⟩
    have hb1 := exN_bound hok s j (fun i hi => hk.diff i (by omega))
    have hb2 := blk_le (p := P) s j
    have hfix := hk.fix
    rw [show j + 1 - 1 = j by omega] at hfix
    have hok2 := exN_ok hok s j
    have hev2 : evE (exN P s j) s = 0 := evE_of hok2 (by rw [exN_wt]; exact (evE_ok hev).2)
    refine ⟨j, Nat.le_trans hb1 hb2, fun x hx => ?_, h1⟩
    have hx2 : x < (exN P s j).wt.length := by rw [exN_wt]; exact hx
    rw [agV_of hev2 hx2, agE_of hev2 hx2]
    exact ⟨fix_agree hok2 hfix hx2, rfl⟩)
  have hnm : P.wt.length * P.cells.length ≤ 256 := by
    have := Nat.mul_le_mul hle hagn
    omega
  have HX0 : Hid (exN P s 0 = P) := Lib.hid rfl
  clear HN1 hck hok hev
  generalize exN P s = X at *
  generalize hn : P.wt.length = n at *
  generalize hm : P.cells.length = m at *
  clear hn hm
  go_enter Tryd.func7, Tryd.ntmps7
  have x0_0 := X0.out.1.c0
  have x0_1 := X0.out.1.c1
  go_wp2_with fail
  clear x0_0 x0_1
  refine (HFW.out _ 16 _ X0.out.2).mono ?_
  rintro e w1 ⟨b, rfl, hb⟩
  have HB1 := Lib.hid (belowNext HB0.out hb)
  have hX0 := X0.out.step hb
  clear X0
  have X0 := Lib.hid hX0
  clear hX0
  clear HB0
  clear hb
  cases b
  case false =>
    go_wp2_with fail
    refine (HAW.out _ HB1.out).mono ?_
    rintro e w2 ⟨rfl, hb⟩
    have HB2 := Lib.hid (belowNext HB1.out hb)
    have hX0 := X0.out.step hb
    clear X0
    have X0 := Lib.hid hX0
    clear hX0
    clear HB1
    clear hb
    go_wp2
    go_ret
    exact ⟨rfl, HB2.out⟩
  case true =>
    have x0_0 := X0.out.1.c0
    have x0_1 := X0.out.1.c1
    go_wp2_with fail
    clear x0_0 x0_1
    refine (HCK.out _ _ X0.out.2).mono ?_
    rintro e w2 ⟨rfl, hb⟩
    have HB2 := Lib.hid (belowNext HB1.out hb)
    have hX0 := X0.out.step hb
    clear X0
    have X0 := Lib.hid hX0
    clear hX0
    clear HB1
    clear hb
    have x0_0 := X0.out.1.c0
    have x0_1 := X0.out.1.c1
    go_wp2_with fail
    clear x0_0 x0_1
    refine (HN2.out _ _ HB2.out X0.out.2).mono ?_
    rintro e w3 ⟨j, hj, hA, B1, e1, rfl, hl, hb⟩
    have HA := Lib.hid hA
    clear hA
    have L1 := Lib.hid hl
    clear hl
    have HB3 := Lib.hid (belowNext HB2.out hb)
    have hX0 := X0.out.step hb
    clear X0
    have X0 := Lib.hid hX0
    clear hX0
    clear HB2
    clear hb
    have x0_0 := X0.out.1.c0
    have x0_1 := X0.out.1.c1
    obtain ⟨b1, o1, V1, V2, rfl, hA⟩ := L1.out.at_ (Nat.succ_pos j)
    have l0 := (hA _ (Below.refl _ w3)).1
    have l1 := (hA _ (Below.refl _ w3)).2.1
    have HS := Lib.hid (fun W hb => HSM.out P (.agg #[V1, V2]) (.agg #[.slice A1 n c1, .slice A2 m c2]) W (by have h := (hA W hb).2.2; rw [HX0.out] at h; exact h) (X0.out.step hb).2)
    have hdd : Below w3.heap.size w3 w3.drew := (Below.refl _ w3).drew
    have q1 : IntKind.i64.wrap ((n : Int) * (m : Int)) = ((n * m : Nat) : Int) := by rw [← Int.natCast_mul]; exact i64_nat _ (by omega)
    have q2 : IntKind.i64.wrap (1 + ((n * m : Nat) : Int)) = ((1 + n * m : Nat) : Int) := by rw [show (1 : Int) + ((n * m : Nat) : Int) = ((1 + n * m : Nat) : Int) by omega]; exact i64_nat _ (by omega)
    have q3 : decide (((1 + n * m : Nat) : Int) < ((j + 1 : Nat) : Int)) = false := decide_eq_false (by omega)
    have q5 : decide ((1 : Int) + ((n * m : Nat) : Int) < ((j + 1 : Nat) : Int)) = false := decide_eq_false (by omega)
    have q4 : decide (((j + 1 : Nat) : Int) < 1) = false := decide_eq_false (by omega)
    clear HN2 HFW HCK
    have hp : (o1 + 0 * 2) = o1 := by omega
    rw [hp] at l0 l1
    have hKp : (0 : Int) < ((j + 1 : Nat) : Int) := by omega
    have hKq : 0 < j + 1 := by omega
    generalize hKK : j + 1 = KK at *
    generalize hNM : n * m = NM at *
    go_wp2
    have HU : Hid (∀ W, Below w3.heap.size w3 W → W.cell? ⟨w.heap.size, 0, none⟩ = some (.slice A1 n c1) ∧ W.cell? ⟨w.heap.size, 1, none⟩ = some (.slice A2 m c2) ∧ W.cell? ⟨b1, o1, none⟩ = some V1 ∧ W.cell? ⟨b1, o1 + 1, none⟩ = some V2) := Lib.hid (fun W hb => by
      have h := X0.out.step hb
      have h2 := hA W hb
      rw [hp] at h2
      exact ⟨h.1.c0, h.1.c1, h2.1, h2.2.1⟩)
    have HEB := Lib.hid (fun W (hb : Below w3.heap.size w3 W) => belowNext HB3.out hb)
    have HXX := Lib.hid (fun W (hb : Below w3.heap.size w3 W) => L1.out.step hb)
    clear hA hdd x0_0 x0_1 l0 l1 X0 L1
    refine wp_region_wild [.slice (some ⟨b1, o1, none⟩) KK e1, .int .i64 (KK : Int), .bool false, .bool false, .slice (some ⟨b1, o1, none⟩) KK e1, .int .i64 (KK : Int), .int .i64 (n : Int), .pointer (some ⟨w.heap.size, 1, none⟩), .slice A2 m c2, .int .i64 (m : Int), .int .i64 (NM : Int), .int .i64 ((1 + NM : Nat) : Int), .bool false, .bool false, .bool false, .slice (some ⟨b1, o1, none⟩) KK e1, .pointer (some ⟨b1, o1, none⟩), .agg #[V1, V2], .agg #[.slice A1 n c1, .slice A2 m c2], .bool true, .bool false, .bool false] [32, 33, 34, 35, 36, 37, 38, 39, 40, 41, 42, 43, 44, 45, 46, 47, 48, 49, 50, 51, 52, 53] [1, 2, 5, 7, 8, 9, 10, 11, 12, 16, 17, 18, 19] [] (fun _ _ _ => False) (fun W => Below w3.heap.size w3 W) (fun W W' => Below W.heap.size W W') 22 78 rfl rfl rfl (by decide) (by decide) (by kernel_rfl) (by kernel_rfl) (by kernel_rfl) (by kernel_rfl) (fun W => Below.refl _ W) (fun W1 W2 W3 h1 h2 => h1.trans (h2.mono h1.size)) (fun W W' h h2 => h.trans (h2.mono h.size)) (fun _ _ _ _ h _ => h) (Below.refl w3.heap.size w3).drew (by kernel_rfl) [] rfl ?hop ?fin
    case hop =>
      refine (And.intro ?s1 (And.intro ?s2 (And.intro ?s5 (And.intro ?s7 (And.intro ?s8 (And.intro ?s9 (And.intro ?s10 (And.intro ?s11 (And.intro ?s12 (And.intro ?s16 (And.intro ?s17 (And.intro ?s18 (And.intro ?s19 (trivial))))))))))))))
      case s1 =>
        refine And.intro (by rfl) (fun tm W hS hsz hfr hdep K hK => ?_)
        change tm.size = 78 at hsz
        have t32 : tm.getD 32 undef = .slice (some ⟨b1, o1, none⟩) KK e1 := wildV_known (by rfl) (hdep 0 (by rfl) (by decide))
        clear hdep hfr
        go_simp
        exact hK _ W (Below.refl _ W) (wildV_of (by rfl))
      case s2 =>
        refine And.intro (by rfl) (fun tm W hS hsz hfr hdep K hK => ?_)
        change tm.size = 78 at hsz
        have t33 : tm.getD 33 undef = .int .i64 (KK : Int) := wildV_known (by rfl) (hdep 1 (by rfl) (by decide))
        clear hdep hfr
        go_simp
        exact hK _ W (Below.refl _ W) (wildV_of (by rfl))
      case s5 =>
        refine And.intro (by rfl) (fun tm W hS hsz hfr hdep K hK => ?_)
        change tm.size = 78 at hsz
        have t36 : tm.getD 36 undef = .slice (some ⟨b1, o1, none⟩) KK e1 := wildV_known (by rfl) (hdep 4 (by rfl) (by decide))
        clear hdep hfr
        go_simp
        exact hK _ W (Below.refl _ W) (wildV_of (by rfl))
      case s7 =>
        refine And.intro (by rfl) (fun tm W hS hsz hfr hdep K hK => ?_)
        change tm.size = 78 at hsz
        have t2 : tm.getD 2 undef = .pointer (some ⟨w.heap.size, 0, none⟩) := hfr 2 (by rfl)
        obtain ⟨y0, y1, y2, y3⟩ := HU.out W hS
        clear hdep hfr
        go_simp
        exact hK _ W (Below.refl _ W) (wildV_of (by rfl))
      case s8 =>
        refine And.intro (by rfl) (fun tm W hS hsz hfr hdep K hK => ?_)
        change tm.size = 78 at hsz
        have t39 : tm.getD 39 undef = .pointer (some ⟨w.heap.size, 1, none⟩) := wildV_known (by rfl) (hdep 7 (by rfl) (by decide))
        have t2 : tm.getD 2 undef = .pointer (some ⟨w.heap.size, 0, none⟩) := hfr 2 (by rfl)
        obtain ⟨y0, y1, y2, y3⟩ := HU.out W hS
        clear hdep hfr
        go_simp
        exact hK _ W (Below.refl _ W) (wildV_of (by rfl))
      case s9 =>
        refine And.intro (by rfl) (fun tm W hS hsz hfr hdep K hK => ?_)
        change tm.size = 78 at hsz
        have t40 : tm.getD 40 undef = .slice A2 m c2 := wildV_known (by rfl) (hdep 8 (by rfl) (by decide))
        clear hdep hfr
        go_simp
        exact hK _ W (Below.refl _ W) (wildV_of (by rfl))
      case s10 =>
        refine And.intro (by rfl) (fun tm W hS hsz hfr hdep K hK => ?_)
        change tm.size = 78 at hsz
        have t38 : tm.getD 38 undef = .int .i64 (n : Int) := wildV_known (by rfl) (hdep 6 (by rfl) (by decide))
        have t41 : tm.getD 41 undef = .int .i64 (m : Int) := wildV_known (by rfl) (hdep 9 (by rfl) (by decide))
        clear hdep hfr
        go_simp
        exact hK _ W (Below.refl _ W) (wildV_of (by rfl))
      case s11 =>
        refine And.intro (by rfl) (fun tm W hS hsz hfr hdep K hK => ?_)
        change tm.size = 78 at hsz
        have t42 : tm.getD 42 undef = .int .i64 (NM : Int) := wildV_known (by rfl) (hdep 10 (by rfl) (by decide))
        clear hdep hfr
        go_simp
        exact hK _ W (Below.refl _ W) (wildV_of (by rfl))
      case s12 =>
        refine And.intro (by rfl) (fun tm W hS hsz hfr hdep K hK => ?_)
        change tm.size = 78 at hsz
        have t37 : tm.getD 37 undef = .int .i64 (KK : Int) := wildV_known (by rfl) (hdep 5 (by rfl) (by decide))
        have t43 : tm.getD 43 undef = .int .i64 ((1 + NM : Nat) : Int) := wildV_known (by rfl) (hdep 11 (by rfl) (by decide))
        clear hdep hfr
        go_simp
        exact hK _ W (Below.refl _ W) (wildV_of (by rfl))
      case s16 =>
        refine And.intro (by rfl) (fun tm W hS hsz hfr hdep K hK => ?_)
        change tm.size = 78 at hsz
        have t47 : tm.getD 47 undef = .slice (some ⟨b1, o1, none⟩) KK e1 := wildV_known (by rfl) (hdep 15 (by rfl) (by decide))
        clear hdep hfr
        go_simp
        exact hK _ W (Below.refl _ W) (wildV_of (by rfl))
      case s17 =>
        refine And.intro (by rfl) (fun tm W hS hsz hfr hdep K hK => ?_)
        change tm.size = 78 at hsz
        have t48 : tm.getD 48 undef = .pointer (some ⟨b1, o1, none⟩) := wildV_known (by rfl) (hdep 16 (by rfl) (by decide))
        have t2 : tm.getD 2 undef = .pointer (some ⟨w.heap.size, 0, none⟩) := hfr 2 (by rfl)
        obtain ⟨y0, y1, y2, y3⟩ := HU.out W hS
        clear hdep hfr
        go_simp
        exact hK _ W (Below.refl _ W) (wildV_of (by rfl))
      case s18 =>
        refine And.intro (by rfl) (fun tm W hS hsz hfr hdep K hK => ?_)
        change tm.size = 78 at hsz
        have t2 : tm.getD 2 undef = .pointer (some ⟨w.heap.size, 0, none⟩) := hfr 2 (by rfl)
        obtain ⟨y0, y1, y2, y3⟩ := HU.out W hS
        clear hdep hfr
        go_simp
        exact hK _ W (Below.refl _ W) (wildV_of (by rfl))
      case s19 =>
        refine And.intro (by rfl) (fun tm W hS hsz hfr hdep K hK => ?_)
        change tm.size = 78 at hsz
        have t49 : tm.getD 49 undef = .agg #[V1, V2] := wildV_known (by rfl) (hdep 17 (by rfl) (by decide))
        have t50 : tm.getD 50 undef = .agg #[.slice A1 n c1, .slice A2 m c2] := wildV_known (by rfl) (hdep 18 (by rfl) (by decide))
        clear hdep hfr
        refine wp_call _ _ _ _ _ rfl rfl (by simp [Act.eval, t49, t50]) (by kernel_rfl) (HS.out W hS) (fun e W9 h9 => ?_)
        obtain ⟨rfl, hb9⟩ := h9
        exact ⟨_, rfl, hK _ W9 hb9 (wildV_of (by rfl))⟩
    case fin =>
      intro f W hS hV
      have hvl : ((List.range 22).map (fun i => if ([] : List Nat).contains i then f i else ([.slice (some ⟨b1, o1, none⟩) KK e1, .int .i64 (KK : Int), .bool false, .bool false, .slice (some ⟨b1, o1, none⟩) KK e1, .int .i64 (KK : Int), .int .i64 (n : Int), .pointer (some ⟨w.heap.size, 1, none⟩), .slice A2 m c2, .int .i64 (m : Int), .int .i64 (NM : Int), .int .i64 ((1 + NM : Nat) : Int), .bool false, .bool false, .bool false, .slice (some ⟨b1, o1, none⟩) KK e1, .pointer (some ⟨b1, o1, none⟩), .agg #[V1, V2], .agg #[.slice A1 n c1, .slice A2 m c2], .bool true, .bool false, .bool false] : List Value).getD i undef)) = [.slice (some ⟨b1, o1, none⟩) KK e1, .int .i64 (KK : Int), .bool false, .bool false, .slice (some ⟨b1, o1, none⟩) KK e1, .int .i64 (KK : Int), .int .i64 (n : Int), .pointer (some ⟨w.heap.size, 1, none⟩), .slice A2 m c2, .int .i64 (m : Int), .int .i64 (NM : Int), .int .i64 ((1 + NM : Nat) : Int), .bool false, .bool false, .bool false, .slice (some ⟨b1, o1, none⟩) KK e1, .pointer (some ⟨b1, o1, none⟩), .agg #[V1, V2], .agg #[.slice A1 n c1, .slice A2 m c2], .bool true, .bool false, .bool false] := by rfl
      rw [hvl]
      clear hvl hV
      have HS9 := Lib.hid hS
      clear hS
      simp only [fillD]
      go_simp
      have HI := Lib.hid (⟨HEB.out _ HS9.out, HXX.out _ HS9.out⟩ : _ ∧ _)
      clear HEB HXX HS9 HU HS q1 q2 q3 q4 q5
      go_wp2
      go_loopw [55] (fun i wr => ∃ u : Nat, u ≤ n ∧ i = .int .i64 (u : Int) ∧ Hid (Below w.heap.size w wr ∧ LstP wr (some ⟨b1, o1, none⟩) KK X)) (fun i _ => n - (intOf i).toNat)
      case atStart => exact ⟨0, Nat.zero_le _, rfl, HI⟩
      case round =>
        clear HI
        obtain ⟨u, hu, rfl, HI⟩ := hrel
        by_cases hlu : u < n
        · obtain ⟨b2, o2, V3, V4, e2, hA⟩ := HI.out.2.at_ (show j < KK by omega)
          injection e2 with e2
          injection e2 with e2 e3
          subst e2 e3
          have l0 := (hA _ (Below.refl _ wr)).1
          have l1 := (hA _ (Below.refl _ wr)).2.1
          have HPX := Lib.hid ((hA _ (Below.refl _ wr)).2.2)
          clear hA
          have i1 : wrap64 ((KK : Int) - 1) = (j : Int) := IntWalk.wrap64_in _ ⟨by omega, by omega⟩ |>.trans (by omega)
          have i2 : j < KK := by omega
          have i4 : KK - 1 = j := by omega
          have i3 : (j : Int) < (KK : Int) := by omega
          have hAu := HA.out u hlu
          have HAG2 := Lib.hid (HAG.out (X j) u)
          rw [hAu.1, hAu.2] at HAG2
          clear hAu
          go_wp2_with fail
          refine (HAG2.out _ _ HI.out.1 HPX.out).mono ?_
          rintro e w5 ⟨rfl, hb5⟩
          have HI5 := Lib.hid (⟨belowNext HI.out.1 hb5, HI.out.2.step hb5⟩ : _ ∧ _)
          clear hb5 l0 l1
          go_wp2
          go_roundw
          case rel => exact ⟨u + 1, by omega, by go_num, HI5⟩
          case measure => first | (simp [intOf]; done) | (simp [intOf]; omega)
        · obtain rfl : u = n := by omega
          go_wp2_with fail
          refine (HAW.out _ HI.out.1).mono ?_
          rintro e w6 ⟨rfl, hb⟩
          have HBZ := Lib.hid (belowNext HI.out.1 hb)
          clear hb
          go_wp2
          go_ret
          exact ⟨rfl, HBZ.out⟩
set_option maxRecDepth 100000 in
theorem contract (H : Type) (enc : TypeId × Value → H) (W : World) (base : Nat) (args : Array Value) (ds gs : List (DataW H)) (before : List MemPlace)
    (hval : ∀ (j : Nat) t v, Tryd.f7.params[j]? = some t → args[j]? = some v → Value.okWide Tryd.prog W .any base t v)
    (hW : DataW.Whole enc Tryd.prog Tryd.f7.params.toList Rows.agreementEndsSpec.vars false W args.toList ds gs before) (hE : Tab W ∧ FinW W) :
    Calls Tryd.prog 7 args W fun e W' => ∃ v, e = .returned v ∧ Rows.agreementEndsSpec.post enc Tryd.prog Tryd.f7 false true false false W args v W' := by
  have hW' := hW
  obtain ⟨p, q, hA0, hV, rfl, hfz, hnd⟩ := hW
  have hA : DataW.TrodAll enc Tryd.prog W 0 (fun _ => true) true Tryd.f7.params.toList args.toList ds p := hA0
  rw [Tryd.params7] at hA hval
  obtain ⟨v0, vs0, d0, ds0, p0, q0, hargs, rfl, rfl, h0, r0⟩ := trodAll_cons hA
  obtain ⟨v1, vs1, d1, ds1, p1, q1, rfl, rfl, rfl, h1, r1⟩ := trodAll_cons r0
  obtain ⟨rfl, rfl, rfl⟩ := trodAll_nil r1
  obtain rfl : args = #[v0, v1] := by cases args; simp_all
  obtain ⟨rfl, rfl⟩ := trodVars_none hV
  obtain ⟨P0, w0⟩ := open_prior (hval 0 25 v0 rfl rfl) h0
  have k0 := h0
  have lt0 : ∀ x ∈ p0, x.block < W.heap.size := by obtain ⟨m, hm⟩ := k0; exact DataW.trod_lt m _ _ _ hm
  obtain ⟨g1, rfl, rfl, rfl, w1⟩ := open_int Tryd.underlying28 (hval 1 28 v1 rfl rfl) h1
  obtain ⟨g1, rfl, hu1⟩ : ∃ n : Nat, g1 = (n : Int) ∧ n < 18446744073709551616 := by have hz := w1; have q1 : IntKind.u64.min = 0 := rfl; have q2 : IntKind.u64.max = 18446744073709551615 := rfl; simp [Lit.wf] at hz; exact ⟨g1.toNat, by omega, by omega⟩
  clear hA0
  simp only [List.append_nil] at hW'
  have hwalk := walk P0 v0 g1 W w0 hu1 hE
  refine hwalk.mono fun e W' ⟨he, hg⟩ => ?_
  subst he
  exact ⟨_, rfl, _, _, _, [], _, [], hW', trodAll_mk1 (shut_bool Tryd.underlying4 _), (trodAll_cons_mk (Below.trod laidOut (by kernel_rfl) (of_decide_eq_true (by kernel_rfl)) k0 hg lt0) (trodAll_cons_mk (shut_int Tryd.underlying28 w1) trodAll_mk0)), rfl, hg.frame _, fun h => by cases h⟩
theorem reads (os : Os) {H : Type} (enc : TypeId × Value → H) : ∃ places, DataW.whole enc Tryd.prog ((laidW os).forCall (fun _ _ => 0) ⟨#[], #[.agg #[.slice none 0 0, .slice none 0 0], .int .u64 0], []⟩).memory Tryd.f7.params.toList Rows.agreementEndsSpec.vars false #[(.agg #[.slice none 0 0, .slice none 0 0] : Value), (.int .u64 0 : Value)].toList 8 = some ([.agg [.nil, .nil], .lit (.int .u64 0)], [], places) :=
  ⟨[], by kernel_rfl⟩
set_option maxRecDepth 100000 in
theorem lifted (os : Os) (started : os.Started) (H : Type) (enc : TypeId × Value → H) (F : Stop.Interp) :
    ReturnsInHanded {} Tryd.checked os 7 .any ((OpenSpec.ofChange Rows.agreementEndsSpec).preRow enc Tryd.prog Tryd.f7 Rows.agreementEndsRow.domain false Rows.agreementEndsRow.laid) (((OpenSpec.ofChange Rows.agreementEndsSpec).at F).post enc Tryd.prog Tryd.f7 false true false false) := by
  obtain ⟨places, hx⟩ := reads os enc
  refine returnsInHanded_of_row (C := Tryd.checked) (s := OpenSpec.ofChange Rows.agreementEndsSpec) own started (by kernel_rfl) Tryd.func7
    (witness_row_atRef (enc := enc) (C := Tryd.checked) false (laidW os) #[.agg #[.slice none 0 0, .slice none 0 0], .int .u64 0] (laidW_os os) (vars_ok os _) (heap_ok os _) (by kernel_rfl)
      (OpenSpec.preRow_of_cond 8 hx (by kernel_rfl) (fun k hk => by cases hk) (by kernel_rfl) (laid_met os _))) ?_
  intro W base args ds gs before hval hW _ _ _ hL hsh _
  exact contract H enc W base args ds gs before hval hW (env_of hL)
theorem said : Rows.AgreementEndsSaid :=
  OpenClaim.holds_of_cond 7 Tryd.f7 rfl rfl rfl rfl rfl rfl rfl ⟨rfl, rfl, rfl, rfl, rfl⟩ rfl rfl rfl rfl rfl (by kernel_rfl) Tryd.func7 (by kernel_rfl)
    (of_decide_eq_true (by kernel_rfl)) (by unfold Func.isWrapper; first | (rw [if_pos (by decide +kernel)]; kernel_rfl) | (rw [if_neg (by decide +kernel)]; exact ⟨rfl, rfl⟩))
    (fun os started H enc _ F => by rw [OpenClaim.pre_eq_preRow]; exact lifted os started H enc F)
theorem plain (f : FuncId) (fn : Func) (hf : Tryd.pinned.checked.prog.funcNamed "witting/wittinglaw24.AgreementEnds" = some f) (hfn : Tryd.pinned.checked.prog.funcs[f]? = some fn) :
    false = Tryd.pinned.checked.prog.looks [] ∧ ∀ (j : Nat) t, fn.params[j]? = some t → Tryd.pinned.checked.prog.wantsStandIn t = false := by
  obtain rfl : f = 7 := Option.some.inj ((show Tryd.prog.funcNamed "witting/wittinglaw24.AgreementEnds" = some 7 by kernel_rfl).symm.trans hf) |>.symm
  obtain rfl : fn = Tryd.f7 := (Option.some.inj (Tryd.func7.symm.trans hfn)).symm
  refine ⟨no_looks, fun j t ht => ?_⟩
  rw [Tryd.params7] at ht
  have hm : t ∈ [25, 28] := by simpa using Array.mem_of_getElem? ht
  have hall : ([25, 28].all fun u => !Tryd.prog.wantsStandIn u) = true := by kernel_rfl
  exact (show Tryd.prog.wantsStandIn t = false by simpa using List.all_eq_true.1 hall t hm)
theorem card : Rows.AgreementEndsCardSaid :=
  Claim7.holds_tied_plain_at .later [] _ _ _ _ said (fun _ h => by cases h) (by kernel_rfl) (fun _ h => by cases h) agreementEnds_row_tie rfl ⟨rfl, rfl⟩ (by kernel_rfl) rfl plain (by kernel_rfl)
#print axioms card
end Go.Proofs.YtfbgabcdeecpoaaDoor.agreementEnds
