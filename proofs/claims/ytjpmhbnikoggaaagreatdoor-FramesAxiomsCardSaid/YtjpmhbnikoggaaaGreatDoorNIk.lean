/- Layer 15: what shows that a relation lacks a property (the closures of conditions), by the program. -/
import Derived.Test.YtjpmhbnikoggaaaGreatDoorNIi
import Derived.Test.YtjpmhbnikoggaaaGreatDoorNIj
namespace Go.Proofs.YtjpmhbnikoggaaaGreatDoor
open Go.RowKit Go.Proofs.Ws
set_option maxRecDepth 100000
theorem add_nil (a : Addr) : a.add 0 = a := by
 unfold Addr.add
 split
 ·rename_i h; obtain ⟨b, o, g⟩ := a; simp_all
 ·obtain ⟨b, o, g⟩ := a; simp_all
theorem iv_at {w : World} {B n : Nat} {A : Option Addr} {l : List Nat} (h : Reads w B 1 A n (iv l)) {k : Nat} (hk : k < n) :
  ∃ ad, A = some ad ∧ ad.block < B ∧ w.cell? (ad.add k) = some (.int .i64 ((l.getD k 0 : Nat) : Int)) := by
 obtain ⟨ad, u, hA, hb, hu, hc⟩ := h.at_ hk
 unfold iv at hu
 rw [List.getElem?_map] at hu
 obtain ⟨x, hx, rfl⟩ := Option.map_eq_some_iff.1 hu
 exact ⟨ad, hA, hb, by rw [hc, List.getD_eq_getElem?_getD, hx]; rfl⟩
/-- whether worlds show that a relation lacks a property -/
def shB (p : Int) (l x : List Nat) : Bool :=
 if p = 1 then decide (l.getD (x.getD 0 0) 0 = 0)
 else if p = 2 then !bit l (x.getD 0 0) (x.getD 0 0)
 else if p = 3 then bit l (x.getD 0 0) (x.getD 1 0) && !bit l (x.getD 1 0) (x.getD 0 0)
 else if p = 4 then bit l (x.getD 0 0) (x.getD 1 0) && bit l (x.getD 1 0) (x.getD 2 0) && !bit l (x.getD 0 0) (x.getD 2 0)
 else bit l (x.getD 0 0) (x.getD 1 0) && bit l (x.getD 0 0) (x.getD 2 0) && !bit l (x.getD 1 0) (x.getD 2 0)
/-- how many worlds show it -/
def lenP (p : Int) : Nat := if p = 1 ∨ p = 2 then 1 else if p = 3 then 2 else 3
set_option maxHeartbeats 2000000 in
theorem show1_any (l x : List Nat) (A D : Option Addr) (n c d : Nat) (w : World) (hR : Reads w w.heap.size 1 A n (us l)) (hX : Reads w w.heap.size 1 D 1 (iv x)) (hx : ∀ k, k < 1 → x.getD k 0 < n) :
  Calls Tryz.prog 92 #[.slice A n c, .slice D 1 d] w fun e w' => e = .returned (.bool (shB 1 l x)) ∧ Below w.heap.size w w' := by
 obtain ⟨ad, rfl, _, hc⟩ := iv_at hX (k := 0) (by omega)
 rw [add_nil] at hc
 have h0 := hx 0 (by omega)
 obtain ⟨ar, rfl, _, hr⟩ := hR.word_k h0
 have e : shB 1 l x = (((l.getD (x.getD 0 0) 0 : Nat) : Int) == 0) := by
  show decide (l.getD (x.getD 0 0) 0 = 0) = _
  rw [Bool.eq_iff_iff, decide_eq_true_eq, beq_iff_eq]
  omega
 rw [e]
 clear e hR hX hx
 generalize l.getD (x.getD 0 0) 0 = v at *
 generalize x.getD 0 0 = k at *
 go_enter Tryz.func92, Tryz.ntmps92
 go_wp2
 go_ret
 exact ⟨rfl, Below.refl _ _⟩
set_option maxHeartbeats 4000000 in
theorem show2_any (l x : List Nat) (A D : Option Addr) (n c d : Nat) (w : World) (hR : Reads w w.heap.size 1 A n (us l)) (hw : Words l) (hn : n ≤ 64) (hX : Reads w w.heap.size 1 D 1 (iv x)) (hx : ∀ k, k < 1 → x.getD k 0 < n) :
  Calls Tryz.prog 95 #[.slice A n c, .slice D 1 d] w fun e w' => e = .returned (.bool (shB 2 l x)) ∧ Below w.heap.size w w' := by
 obtain ⟨ad0, hD0, hb0, hc0⟩ := iv_at hX (k := 0) (by omega)
 have hx0 := hx 0 (by omega)
 subst hD0
 have hb := hb0
 have HC0 := Lib.hid (fun W (hW : Below w.heap.size w W) => (hW.cell (p := ad0.add 0) (by rw [block_of_add]; exact hb0)).trans hc0)
 have HL0 := Lib.hid (fun W (hW : Below w.heap.size w W) => leads_any l A n c (x.getD 0 0) (x.getD 0 0) W ((hR.below hW).more hW.size) hw hx0 (by omega))
 have e : shB 2 l x = (!bit l (x.getD 0 0) (x.getD 0 0)) := rfl
 rw [e]
 clear e hR hX hx hc0 hb0 hx0
 generalize bit l (x.getD 0 0) (x.getD 0 0) = b0 at *
 generalize x.getD 0 0 = x0 at *
 go_enter Tryz.func95, Tryz.ntmps95
 go_wp2
 refine wp_region_constD [.slice A n c, .slice (some ad0) 1 d, .pointer (some ad0), .int .i64 (x0 : Int), .slice (some ad0) 1 d, .pointer (some ad0), .int .i64 (x0 : Int), .bool b0, .bool (!b0), .bool (!b0)] [5, 6, 7, 8, 9, 10, 11, 12, 13, 4] (fun W => Below w.heap.size w W) (fun W W' => Below W.heap.size W W') 10 14 rfl rfl rfl rfl (by decide) (by decide) (by kernel_rfl) (by kernel_rfl) (by kernel_rfl) (fun W => Below.refl _ W) (fun W1 W2 W3 h1 h2 => h1.trans (h2.mono h1.size)) (fun W W' h h2 => h.trans (h2.mono h.size)) (Below.refl _ w).drew ?hop ?fin
 case hop =>
  refine (lt_more (lt_more (lt_more (lt_more (lt_more (lt_more (lt_more (lt_more (lt_more (lt_more (lt_none _) ?s0) ?s1) ?s2) ?s3) ?s4) ?s5) ?s6) ?s7) ?s8) ?s9)
  case s0 =>
   intro o ho a W hS hsz hdf hfr hdep K hK
   obtain ⟨tm, df⟩ := a
   have hdf : df = [] := hdf
   subst hdf
   have ho := Option.some.inj ho
   subst ho
   have hsz : tm.size = 14 := hsz
   have t0 : tm.getD 0 undef = .slice A n c := hfr 0 (by decide)
   clear hdep hfr
   go_simp
   exact hK _ W (Below.refl _ W) (fun W9 hb => rfl)
  case s1 =>
   intro o ho a W hS hsz hdf hfr hdep K hK
   obtain ⟨tm, df⟩ := a
   have hdf : df = [] := hdf
   subst hdf
   have ho := Option.some.inj ho
   subst ho
   have hsz : tm.size = 14 := hsz
   have t1 : tm.getD 1 undef = .slice (some ad0) 1 d := hfr 1 (by decide)
   clear hdep hfr
   go_simp
   exact hK _ W (Below.refl _ W) (fun W9 hb => rfl)
  case s2 =>
   intro o ho a W hS hsz hdf hfr hdep K hK
   obtain ⟨tm, df⟩ := a
   have hdf : df = [] := hdf
   subst hdf
   have ho := Option.some.inj ho
   subst ho
   have hsz : tm.size = 14 := hsz
   have t6 : tm.getD 6 undef = .slice (some ad0) 1 d := hdep ⟨1, .data⟩ (by simp) (by rfl) (by decide) W (Below.refl _ W)
   clear hdep hfr
   go_simp
   exact hK _ W (Below.refl _ W) (fun W9 hb => rfl)
  case s3 =>
   intro o ho a W hS hsz hdf hfr hdep K hK
   obtain ⟨tm, df⟩ := a
   have hdf : df = [] := hdf
   subst hdf
   have ho := Option.some.inj ho
   subst ho
   have hsz : tm.size = 14 := hsz
   have t7 : tm.getD 7 undef = .pointer (some ad0) := hdep ⟨2, .data⟩ (by simp) (by rfl) (by decide) W (Below.refl _ W)
   have cz := HC0.out W hS
   rw [add_nil] at cz
   clear hdep hfr
   go_simp
   exact hK _ W (Below.refl _ W) (fun W9 hb => rfl)
  case s4 =>
   intro o ho a W hS hsz hdf hfr hdep K hK
   obtain ⟨tm, df⟩ := a
   have hdf : df = [] := hdf
   subst hdf
   have ho := Option.some.inj ho
   subst ho
   have hsz : tm.size = 14 := hsz
   have t1 : tm.getD 1 undef = .slice (some ad0) 1 d := hfr 1 (by decide)
   clear hdep hfr
   go_simp
   exact hK _ W (Below.refl _ W) (fun W9 hb => rfl)
  case s5 =>
   intro o ho a W hS hsz hdf hfr hdep K hK
   obtain ⟨tm, df⟩ := a
   have hdf : df = [] := hdf
   subst hdf
   have ho := Option.some.inj ho
   subst ho
   have hsz : tm.size = 14 := hsz
   have t9 : tm.getD 9 undef = .slice (some ad0) 1 d := hdep ⟨4, .data⟩ (by simp) (by rfl) (by decide) W (Below.refl _ W)
   clear hdep hfr
   go_simp
   exact hK _ W (Below.refl _ W) (fun W9 hb => rfl)
  case s6 =>
   intro o ho a W hS hsz hdf hfr hdep K hK
   obtain ⟨tm, df⟩ := a
   have hdf : df = [] := hdf
   subst hdf
   have ho := Option.some.inj ho
   subst ho
   have hsz : tm.size = 14 := hsz
   have t10 : tm.getD 10 undef = .pointer (some ad0) := hdep ⟨5, .data⟩ (by simp) (by rfl) (by decide) W (Below.refl _ W)
   have cz := HC0.out W hS
   rw [add_nil] at cz
   clear hdep hfr
   go_simp
   exact hK _ W (Below.refl _ W) (fun W9 hb => rfl)
  case s7 =>
   intro o ho a W hS hsz hdf hfr hdep K hK
   obtain ⟨tm, df⟩ := a
   have hdf : df = [] := hdf
   subst hdf
   have ho := Option.some.inj ho
   subst ho
   have hsz : tm.size = 14 := hsz
   have t5 : tm.getD 5 undef = .slice A n c := hdep ⟨0, .data⟩ (by simp) (by rfl) (by decide) W (Below.refl _ W)
   have t8 : tm.getD 8 undef = .int .i64 (x0 : Int) := hdep ⟨3, .data⟩ (by simp) (by rfl) (by decide) W (Below.refl _ W)
   have t11 : tm.getD 11 undef = .int .i64 (x0 : Int) := hdep ⟨6, .data⟩ (by simp) (by rfl) (by decide) W (Below.refl _ W)
   clear hdep hfr
   go_simp
   refine (HL0.out W hS).mono ?_
   rintro e W9 ⟨rfl, rfl⟩
   exact hK _ _ (Below.refl _ _) (fun W8 hc => rfl)
  case s8 =>
   intro o ho a W hS hsz hdf hfr hdep K hK
   obtain ⟨tm, df⟩ := a
   have hdf : df = [] := hdf
   subst hdf
   have ho := Option.some.inj ho
   subst ho
   have hsz : tm.size = 14 := hsz
   have t12 : tm.getD 12 undef = .bool b0 := hdep ⟨7, .data⟩ (by simp) (by rfl) (by decide) W (Below.refl _ W)
   clear hdep hfr
   go_simp
   exact hK _ W (Below.refl _ W) (fun W9 hb => rfl)
  case s9 =>
   intro o ho a W hS hsz hdf hfr hdep K hK
   obtain ⟨tm, df⟩ := a
   have hdf : df = [] := hdf
   subst hdf
   have ho := Option.some.inj ho
   subst ho
   have hsz : tm.size = 14 := hsz
   have t13 : tm.getD 13 undef = .bool (!b0) := hdep ⟨8, .data⟩ (by simp) (by rfl) (by decide) W (Below.refl _ W)
   clear hdep hfr
   go_simp
   exact hK _ W (Below.refl _ W) (fun W9 hb => rfl)
 case fin =>
  intro W hS
  simp only [fillD]
  go_simp
  go_wp2
  go_ret
  exact ⟨rfl, hS⟩
set_option maxHeartbeats 4000000 in
theorem show3_any (l x : List Nat) (A D : Option Addr) (n c d : Nat) (w : World) (hR : Reads w w.heap.size 1 A n (us l)) (hw : Words l) (hn : n ≤ 64) (hX : Reads w w.heap.size 1 D 2 (iv x)) (hx : ∀ k, k < 2 → x.getD k 0 < n) :
  Calls Tryz.prog 99 #[.slice A n c, .slice D 2 d] w fun e w' => e = .returned (.bool (shB 3 l x)) ∧ Below w.heap.size w w' := by
 obtain ⟨ad0, hD0, hb0, hc0⟩ := iv_at hX (k := 0) (by omega)
 have hx0 := hx 0 (by omega)
 obtain ⟨ad1, hD1, hb1, hc1⟩ := iv_at hX (k := 1) (by omega)
 have hx1 := hx 1 (by omega)
 subst hD0
 injection hD1 with hD1
 subst hD1
 have hb := hb0
 have HC0 := Lib.hid (fun W (hW : Below w.heap.size w W) => (hW.cell (p := ad0.add 0) (by rw [block_of_add]; exact hb0)).trans hc0)
 have HC1 := Lib.hid (fun W (hW : Below w.heap.size w W) => (hW.cell (p := ad0.add 1) (by rw [block_of_add]; exact hb1)).trans hc1)
 have HL0 := Lib.hid (fun W (hW : Below w.heap.size w W) => leads_any l A n c (x.getD 0 0) (x.getD 1 0) W ((hR.below hW).more hW.size) hw hx0 (by omega))
 have HL1 := Lib.hid (fun W (hW : Below w.heap.size w W) => leads_any l A n c (x.getD 1 0) (x.getD 0 0) W ((hR.below hW).more hW.size) hw hx1 (by omega))
 have e : shB 3 l x = (bit l (x.getD 0 0) (x.getD 1 0) && !bit l (x.getD 1 0) (x.getD 0 0)) := rfl
 rw [e]
 clear e hR hX hx hc0 hb0 hx0 hc1 hb1 hx1
 generalize bit l (x.getD 0 0) (x.getD 1 0) = b0 at *
 generalize bit l (x.getD 1 0) (x.getD 0 0) = b1 at *
 generalize x.getD 0 0 = x0 at *
 generalize x.getD 1 0 = x1 at *
 cases b0
 case false =>
  go_enter Tryz.func99, Tryz.ntmps99
  go_wp2
  refine wp_region_constD [.slice A n c, .slice (some ad0) 2 d, .pointer (some ad0), .int .i64 (x0 : Int), .slice (some ad0) 2 d, .pointer (some (ad0.add 1)), .int .i64 (x1 : Int), .bool false, .bool false, undef, undef, undef, undef, undef, undef, undef, undef, undef, .bool false, .bool false] [5, 6, 7, 8, 9, 10, 11, 12, 13, 14, 15, 16, 17, 18, 19, 20, 21, 22, 23, 4] (fun W => Below w.heap.size w W) (fun W W' => Below W.heap.size W W') 20 24 rfl rfl rfl rfl (by decide) (by decide) (by kernel_rfl) (by kernel_rfl) (by kernel_rfl) (fun W => Below.refl _ W) (fun W1 W2 W3 h1 h2 => h1.trans (h2.mono h1.size)) (fun W W' h h2 => h.trans (h2.mono h.size)) (Below.refl _ w).drew ?hop ?fin
  case hop =>
   refine (lt_more (lt_more (lt_more (lt_more (lt_more (lt_more (lt_more (lt_more (lt_more (lt_more (lt_more (lt_more (lt_more (lt_more (lt_more (lt_more (lt_more (lt_more (lt_more (lt_more (lt_none _) ?s0) ?s1) ?s2) ?s3) ?s4) ?s5) ?s6) ?s7) ?s8) ?s9) ?s10) ?s11) ?s12) ?s13) ?s14) ?s15) ?s16) ?s17) ?s18) ?s19)
   case s0 =>
    intro o ho a W hS hsz hdf hfr hdep K hK
    obtain ⟨tm, df⟩ := a
    have hdf : df = [] := hdf
    subst hdf
    have ho := Option.some.inj ho
    subst ho
    have hsz : tm.size = 24 := hsz
    have t0 : tm.getD 0 undef = .slice A n c := hfr 0 (by decide)
    clear hdep hfr
    go_simp
    exact hK _ W (Below.refl _ W) (fun W9 hb => rfl)
   case s1 =>
    intro o ho a W hS hsz hdf hfr hdep K hK
    obtain ⟨tm, df⟩ := a
    have hdf : df = [] := hdf
    subst hdf
    have ho := Option.some.inj ho
    subst ho
    have hsz : tm.size = 24 := hsz
    have t1 : tm.getD 1 undef = .slice (some ad0) 2 d := hfr 1 (by decide)
    clear hdep hfr
    go_simp
    exact hK _ W (Below.refl _ W) (fun W9 hb => rfl)
   case s2 =>
    intro o ho a W hS hsz hdf hfr hdep K hK
    obtain ⟨tm, df⟩ := a
    have hdf : df = [] := hdf
    subst hdf
    have ho := Option.some.inj ho
    subst ho
    have hsz : tm.size = 24 := hsz
    have t6 : tm.getD 6 undef = .slice (some ad0) 2 d := hdep ⟨1, .data⟩ (by simp) (by rfl) (by decide) W (Below.refl _ W)
    clear hdep hfr
    go_simp
    exact hK _ W (Below.refl _ W) (fun W9 hb => rfl)
   case s3 =>
    intro o ho a W hS hsz hdf hfr hdep K hK
    obtain ⟨tm, df⟩ := a
    have hdf : df = [] := hdf
    subst hdf
    have ho := Option.some.inj ho
    subst ho
    have hsz : tm.size = 24 := hsz
    have t7 : tm.getD 7 undef = .pointer (some ad0) := hdep ⟨2, .data⟩ (by simp) (by rfl) (by decide) W (Below.refl _ W)
    have cz := HC0.out W hS
    rw [add_nil] at cz
    clear hdep hfr
    go_simp
    exact hK _ W (Below.refl _ W) (fun W9 hb => rfl)
   case s4 =>
    intro o ho a W hS hsz hdf hfr hdep K hK
    obtain ⟨tm, df⟩ := a
    have hdf : df = [] := hdf
    subst hdf
    have ho := Option.some.inj ho
    subst ho
    have hsz : tm.size = 24 := hsz
    have t1 : tm.getD 1 undef = .slice (some ad0) 2 d := hfr 1 (by decide)
    clear hdep hfr
    go_simp
    exact hK _ W (Below.refl _ W) (fun W9 hb => rfl)
   case s5 =>
    intro o ho a W hS hsz hdf hfr hdep K hK
    obtain ⟨tm, df⟩ := a
    have hdf : df = [] := hdf
    subst hdf
    have ho := Option.some.inj ho
    subst ho
    have hsz : tm.size = 24 := hsz
    have t9 : tm.getD 9 undef = .slice (some ad0) 2 d := hdep ⟨4, .data⟩ (by simp) (by rfl) (by decide) W (Below.refl _ W)
    clear hdep hfr
    go_simp
    exact hK _ W (Below.refl _ W) (fun W9 hb => rfl)
   case s6 =>
    intro o ho a W hS hsz hdf hfr hdep K hK
    obtain ⟨tm, df⟩ := a
    have hdf : df = [] := hdf
    subst hdf
    have ho := Option.some.inj ho
    subst ho
    have hsz : tm.size = 24 := hsz
    have t10 : tm.getD 10 undef = .pointer (some (ad0.add 1)) := hdep ⟨5, .data⟩ (by simp) (by rfl) (by decide) W (Below.refl _ W)
    have cz : W.cell? { block := ad0.block, off := ad0.off + 1 } = some (.int .i64 (x1 : Int)) := by have h9 := HC1.out W hS; simpa [Addr.add] using h9
    clear hdep hfr
    go_simp
    exact hK _ W (Below.refl _ W) (fun W9 hb => rfl)
   case s7 =>
    intro o ho a W hS hsz hdf hfr hdep K hK
    obtain ⟨tm, df⟩ := a
    have hdf : df = [] := hdf
    subst hdf
    have ho := Option.some.inj ho
    subst ho
    have hsz : tm.size = 24 := hsz
    have t5 : tm.getD 5 undef = .slice A n c := hdep ⟨0, .data⟩ (by simp) (by rfl) (by decide) W (Below.refl _ W)
    have t8 : tm.getD 8 undef = .int .i64 (x0 : Int) := hdep ⟨3, .data⟩ (by simp) (by rfl) (by decide) W (Below.refl _ W)
    have t11 : tm.getD 11 undef = .int .i64 (x1 : Int) := hdep ⟨6, .data⟩ (by simp) (by rfl) (by decide) W (Below.refl _ W)
    clear hdep hfr
    go_simp
    refine (HL0.out W hS).mono ?_
    rintro e W9 ⟨rfl, rfl⟩
    exact hK _ _ (Below.refl _ _) (fun W8 hc => rfl)
   case s8 =>
    intro o ho a W hS hsz hdf hfr hdep K hK
    obtain ⟨tm, df⟩ := a
    have hdf : df = [] := hdf
    subst hdf
    have ho := Option.some.inj ho
    subst ho
    have hsz : tm.size = 24 := hsz
    have t12 : tm.getD 12 undef = .bool false := hdep ⟨7, .data⟩ (by simp) (by rfl) (by decide) W (Below.refl _ W)
    clear hdep hfr
    go_simp
    exact hK _ W (Below.refl _ W) (fun W9 hb => rfl)
   case s9 =>
    intro o ho a W hS hsz hdf hfr hdep K hK
    obtain ⟨tm, df⟩ := a
    have hdf : df = [] := hdf
    subst hdf
    have ho := Option.some.inj ho
    subst ho
    have hsz : tm.size = 24 := hsz
    have t13 : tm.getD 13 undef = .bool false := hdep ⟨8, .guard⟩ (by simp) (by rfl) (by decide) W (Below.refl _ W)
    have u13 : tm[13]'(by omega) = .bool false := getq t13 (by omega)
    clear hdep hfr
    go_simp
    exact hK _ W (Below.refl _ W) (fun W9 hb => rfl)
   case s10 =>
    intro o ho a W hS hsz hdf hfr hdep K hK
    obtain ⟨tm, df⟩ := a
    have hdf : df = [] := hdf
    subst hdf
    have ho := Option.some.inj ho
    subst ho
    have hsz : tm.size = 24 := hsz
    have t13 : tm.getD 13 undef = .bool false := hdep ⟨8, .guard⟩ (by simp) (by rfl) (by decide) W (Below.refl _ W)
    have u13 : tm[13]'(by omega) = .bool false := getq t13 (by omega)
    clear hdep hfr
    go_simp
    exact hK _ W (Below.refl _ W) (fun W9 hb => rfl)
   case s11 =>
    intro o ho a W hS hsz hdf hfr hdep K hK
    obtain ⟨tm, df⟩ := a
    have hdf : df = [] := hdf
    subst hdf
    have ho := Option.some.inj ho
    subst ho
    have hsz : tm.size = 24 := hsz
    have t13 : tm.getD 13 undef = .bool false := hdep ⟨8, .guard⟩ (by simp) (by rfl) (by decide) W (Below.refl _ W)
    have u13 : tm[13]'(by omega) = .bool false := getq t13 (by omega)
    clear hdep hfr
    go_simp
    exact hK _ W (Below.refl _ W) (fun W9 hb => rfl)
   case s12 =>
    intro o ho a W hS hsz hdf hfr hdep K hK
    obtain ⟨tm, df⟩ := a
    have hdf : df = [] := hdf
    subst hdf
    have ho := Option.some.inj ho
    subst ho
    have hsz : tm.size = 24 := hsz
    have t13 : tm.getD 13 undef = .bool false := hdep ⟨8, .guard⟩ (by simp) (by rfl) (by decide) W (Below.refl _ W)
    have u13 : tm[13]'(by omega) = .bool false := getq t13 (by omega)
    clear hdep hfr
    go_simp
    exact hK _ W (Below.refl _ W) (fun W9 hb => rfl)
   case s13 =>
    intro o ho a W hS hsz hdf hfr hdep K hK
    obtain ⟨tm, df⟩ := a
    have hdf : df = [] := hdf
    subst hdf
    have ho := Option.some.inj ho
    subst ho
    have hsz : tm.size = 24 := hsz
    have t13 : tm.getD 13 undef = .bool false := hdep ⟨8, .guard⟩ (by simp) (by rfl) (by decide) W (Below.refl _ W)
    have u13 : tm[13]'(by omega) = .bool false := getq t13 (by omega)
    clear hdep hfr
    go_simp
    exact hK _ W (Below.refl _ W) (fun W9 hb => rfl)
   case s14 =>
    intro o ho a W hS hsz hdf hfr hdep K hK
    obtain ⟨tm, df⟩ := a
    have hdf : df = [] := hdf
    subst hdf
    have ho := Option.some.inj ho
    subst ho
    have hsz : tm.size = 24 := hsz
    have t13 : tm.getD 13 undef = .bool false := hdep ⟨8, .guard⟩ (by simp) (by rfl) (by decide) W (Below.refl _ W)
    have u13 : tm[13]'(by omega) = .bool false := getq t13 (by omega)
    clear hdep hfr
    go_simp
    exact hK _ W (Below.refl _ W) (fun W9 hb => rfl)
   case s15 =>
    intro o ho a W hS hsz hdf hfr hdep K hK
    obtain ⟨tm, df⟩ := a
    have hdf : df = [] := hdf
    subst hdf
    have ho := Option.some.inj ho
    subst ho
    have hsz : tm.size = 24 := hsz
    have t13 : tm.getD 13 undef = .bool false := hdep ⟨8, .guard⟩ (by simp) (by rfl) (by decide) W (Below.refl _ W)
    have u13 : tm[13]'(by omega) = .bool false := getq t13 (by omega)
    clear hdep hfr
    go_simp
    exact hK _ W (Below.refl _ W) (fun W9 hb => rfl)
   case s16 =>
    intro o ho a W hS hsz hdf hfr hdep K hK
    obtain ⟨tm, df⟩ := a
    have hdf : df = [] := hdf
    subst hdf
    have ho := Option.some.inj ho
    subst ho
    have hsz : tm.size = 24 := hsz
    have t13 : tm.getD 13 undef = .bool false := hdep ⟨8, .guard⟩ (by simp) (by rfl) (by decide) W (Below.refl _ W)
    have u13 : tm[13]'(by omega) = .bool false := getq t13 (by omega)
    clear hdep hfr
    go_simp
    exact hK _ W (Below.refl _ W) (fun W9 hb => rfl)
   case s17 =>
    intro o ho a W hS hsz hdf hfr hdep K hK
    obtain ⟨tm, df⟩ := a
    have hdf : df = [] := hdf
    subst hdf
    have ho := Option.some.inj ho
    subst ho
    have hsz : tm.size = 24 := hsz
    have t13 : tm.getD 13 undef = .bool false := hdep ⟨8, .guard⟩ (by simp) (by rfl) (by decide) W (Below.refl _ W)
    have u13 : tm[13]'(by omega) = .bool false := getq t13 (by omega)
    clear hdep hfr
    go_simp
    exact hK _ W (Below.refl _ W) (fun W9 hb => rfl)
   case s18 =>
    intro o ho a W hS hsz hdf hfr hdep K hK
    obtain ⟨tm, df⟩ := a
    have hdf : df = [] := hdf
    subst hdf
    have ho := Option.some.inj ho
    subst ho
    have hsz : tm.size = 24 := hsz
    have t13 : tm.getD 13 undef = .bool false := hdep ⟨8, .data⟩ (by simp) (by rfl) (by decide) W (Below.refl _ W)
    have t22 : tm.getD 22 undef = undef := hdep ⟨17, .data⟩ (by simp) (by rfl) (by decide) W (Below.refl _ W)
    clear hdep hfr
    go_simp
    exact hK _ W (Below.refl _ W) (fun W9 hb => rfl)
   case s19 =>
    intro o ho a W hS hsz hdf hfr hdep K hK
    obtain ⟨tm, df⟩ := a
    have hdf : df = [] := hdf
    subst hdf
    have ho := Option.some.inj ho
    subst ho
    have hsz : tm.size = 24 := hsz
    have t23 : tm.getD 23 undef = .bool false := hdep ⟨18, .data⟩ (by simp) (by rfl) (by decide) W (Below.refl _ W)
    clear hdep hfr
    go_simp
    exact hK _ W (Below.refl _ W) (fun W9 hb => rfl)
  case fin =>
   intro W hS
   simp only [fillD]
   go_simp
   go_wp2
   go_ret
   exact ⟨rfl, hS⟩
 case true =>
  go_enter Tryz.func99, Tryz.ntmps99
  go_wp2
  refine wp_region_constD [.slice A n c, .slice (some ad0) 2 d, .pointer (some ad0), .int .i64 (x0 : Int), .slice (some ad0) 2 d, .pointer (some (ad0.add 1)), .int .i64 (x1 : Int), .bool true, .bool true, .slice A n c, .slice (some ad0) 2 d, .pointer (some (ad0.add 1)), .int .i64 (x1 : Int), .slice (some ad0) 2 d, .pointer (some ad0), .int .i64 (x0 : Int), .bool b1, .bool (!b1), .bool (!b1), .bool (!b1)] [5, 6, 7, 8, 9, 10, 11, 12, 13, 14, 15, 16, 17, 18, 19, 20, 21, 22, 23, 4] (fun W => Below w.heap.size w W) (fun W W' => Below W.heap.size W W') 20 24 rfl rfl rfl rfl (by decide) (by decide) (by kernel_rfl) (by kernel_rfl) (by kernel_rfl) (fun W => Below.refl _ W) (fun W1 W2 W3 h1 h2 => h1.trans (h2.mono h1.size)) (fun W W' h h2 => h.trans (h2.mono h.size)) (Below.refl _ w).drew ?hop ?fin
  case hop =>
   refine (lt_more (lt_more (lt_more (lt_more (lt_more (lt_more (lt_more (lt_more (lt_more (lt_more (lt_more (lt_more (lt_more (lt_more (lt_more (lt_more (lt_more (lt_more (lt_more (lt_more (lt_none _) ?s0) ?s1) ?s2) ?s3) ?s4) ?s5) ?s6) ?s7) ?s8) ?s9) ?s10) ?s11) ?s12) ?s13) ?s14) ?s15) ?s16) ?s17) ?s18) ?s19)
   case s0 =>
    intro o ho a W hS hsz hdf hfr hdep K hK
    obtain ⟨tm, df⟩ := a
    have hdf : df = [] := hdf
    subst hdf
    have ho := Option.some.inj ho
    subst ho
    have hsz : tm.size = 24 := hsz
    have t0 : tm.getD 0 undef = .slice A n c := hfr 0 (by decide)
    clear hdep hfr
    go_simp
    exact hK _ W (Below.refl _ W) (fun W9 hb => rfl)
   case s1 =>
    intro o ho a W hS hsz hdf hfr hdep K hK
    obtain ⟨tm, df⟩ := a
    have hdf : df = [] := hdf
    subst hdf
    have ho := Option.some.inj ho
    subst ho
    have hsz : tm.size = 24 := hsz
    have t1 : tm.getD 1 undef = .slice (some ad0) 2 d := hfr 1 (by decide)
    clear hdep hfr
    go_simp
    exact hK _ W (Below.refl _ W) (fun W9 hb => rfl)
   case s2 =>
    intro o ho a W hS hsz hdf hfr hdep K hK
    obtain ⟨tm, df⟩ := a
    have hdf : df = [] := hdf
    subst hdf
    have ho := Option.some.inj ho
    subst ho
    have hsz : tm.size = 24 := hsz
    have t6 : tm.getD 6 undef = .slice (some ad0) 2 d := hdep ⟨1, .data⟩ (by simp) (by rfl) (by decide) W (Below.refl _ W)
    clear hdep hfr
    go_simp
    exact hK _ W (Below.refl _ W) (fun W9 hb => rfl)
   case s3 =>
    intro o ho a W hS hsz hdf hfr hdep K hK
    obtain ⟨tm, df⟩ := a
    have hdf : df = [] := hdf
    subst hdf
    have ho := Option.some.inj ho
    subst ho
    have hsz : tm.size = 24 := hsz
    have t7 : tm.getD 7 undef = .pointer (some ad0) := hdep ⟨2, .data⟩ (by simp) (by rfl) (by decide) W (Below.refl _ W)
    have cz := HC0.out W hS
    rw [add_nil] at cz
    clear hdep hfr
    go_simp
    exact hK _ W (Below.refl _ W) (fun W9 hb => rfl)
   case s4 =>
    intro o ho a W hS hsz hdf hfr hdep K hK
    obtain ⟨tm, df⟩ := a
    have hdf : df = [] := hdf
    subst hdf
    have ho := Option.some.inj ho
    subst ho
    have hsz : tm.size = 24 := hsz
    have t1 : tm.getD 1 undef = .slice (some ad0) 2 d := hfr 1 (by decide)
    clear hdep hfr
    go_simp
    exact hK _ W (Below.refl _ W) (fun W9 hb => rfl)
   case s5 =>
    intro o ho a W hS hsz hdf hfr hdep K hK
    obtain ⟨tm, df⟩ := a
    have hdf : df = [] := hdf
    subst hdf
    have ho := Option.some.inj ho
    subst ho
    have hsz : tm.size = 24 := hsz
    have t9 : tm.getD 9 undef = .slice (some ad0) 2 d := hdep ⟨4, .data⟩ (by simp) (by rfl) (by decide) W (Below.refl _ W)
    clear hdep hfr
    go_simp
    exact hK _ W (Below.refl _ W) (fun W9 hb => rfl)
   case s6 =>
    intro o ho a W hS hsz hdf hfr hdep K hK
    obtain ⟨tm, df⟩ := a
    have hdf : df = [] := hdf
    subst hdf
    have ho := Option.some.inj ho
    subst ho
    have hsz : tm.size = 24 := hsz
    have t10 : tm.getD 10 undef = .pointer (some (ad0.add 1)) := hdep ⟨5, .data⟩ (by simp) (by rfl) (by decide) W (Below.refl _ W)
    have cz : W.cell? { block := ad0.block, off := ad0.off + 1 } = some (.int .i64 (x1 : Int)) := by have h9 := HC1.out W hS; simpa [Addr.add] using h9
    clear hdep hfr
    go_simp
    exact hK _ W (Below.refl _ W) (fun W9 hb => rfl)
   case s7 =>
    intro o ho a W hS hsz hdf hfr hdep K hK
    obtain ⟨tm, df⟩ := a
    have hdf : df = [] := hdf
    subst hdf
    have ho := Option.some.inj ho
    subst ho
    have hsz : tm.size = 24 := hsz
    have t5 : tm.getD 5 undef = .slice A n c := hdep ⟨0, .data⟩ (by simp) (by rfl) (by decide) W (Below.refl _ W)
    have t8 : tm.getD 8 undef = .int .i64 (x0 : Int) := hdep ⟨3, .data⟩ (by simp) (by rfl) (by decide) W (Below.refl _ W)
    have t11 : tm.getD 11 undef = .int .i64 (x1 : Int) := hdep ⟨6, .data⟩ (by simp) (by rfl) (by decide) W (Below.refl _ W)
    clear hdep hfr
    go_simp
    refine (HL0.out W hS).mono ?_
    rintro e W9 ⟨rfl, rfl⟩
    exact hK _ _ (Below.refl _ _) (fun W8 hc => rfl)
   case s8 =>
    intro o ho a W hS hsz hdf hfr hdep K hK
    obtain ⟨tm, df⟩ := a
    have hdf : df = [] := hdf
    subst hdf
    have ho := Option.some.inj ho
    subst ho
    have hsz : tm.size = 24 := hsz
    have t12 : tm.getD 12 undef = .bool true := hdep ⟨7, .data⟩ (by simp) (by rfl) (by decide) W (Below.refl _ W)
    clear hdep hfr
    go_simp
    exact hK _ W (Below.refl _ W) (fun W9 hb => rfl)
   case s9 =>
    intro o ho a W hS hsz hdf hfr hdep K hK
    obtain ⟨tm, df⟩ := a
    have hdf : df = [] := hdf
    subst hdf
    have ho := Option.some.inj ho
    subst ho
    have hsz : tm.size = 24 := hsz
    have t0 : tm.getD 0 undef = .slice A n c := hfr 0 (by decide)
    have t13 : tm.getD 13 undef = .bool true := hdep ⟨8, .guard⟩ (by simp) (by rfl) (by decide) W (Below.refl _ W)
    have u13 : tm[13]'(by omega) = .bool true := getq t13 (by omega)
    clear hdep hfr
    go_simp
    exact hK _ W (Below.refl _ W) (fun W9 hb => rfl)
   case s10 =>
    intro o ho a W hS hsz hdf hfr hdep K hK
    obtain ⟨tm, df⟩ := a
    have hdf : df = [] := hdf
    subst hdf
    have ho := Option.some.inj ho
    subst ho
    have hsz : tm.size = 24 := hsz
    have t1 : tm.getD 1 undef = .slice (some ad0) 2 d := hfr 1 (by decide)
    have t13 : tm.getD 13 undef = .bool true := hdep ⟨8, .guard⟩ (by simp) (by rfl) (by decide) W (Below.refl _ W)
    have u13 : tm[13]'(by omega) = .bool true := getq t13 (by omega)
    clear hdep hfr
    go_simp
    exact hK _ W (Below.refl _ W) (fun W9 hb => rfl)
   case s11 =>
    intro o ho a W hS hsz hdf hfr hdep K hK
    obtain ⟨tm, df⟩ := a
    have hdf : df = [] := hdf
    subst hdf
    have ho := Option.some.inj ho
    subst ho
    have hsz : tm.size = 24 := hsz
    have t15 : tm.getD 15 undef = .slice (some ad0) 2 d := hdep ⟨10, .data⟩ (by simp) (by rfl) (by decide) W (Below.refl _ W)
    have t13 : tm.getD 13 undef = .bool true := hdep ⟨8, .guard⟩ (by simp) (by rfl) (by decide) W (Below.refl _ W)
    have u13 : tm[13]'(by omega) = .bool true := getq t13 (by omega)
    clear hdep hfr
    go_simp
    exact hK _ W (Below.refl _ W) (fun W9 hb => rfl)
   case s12 =>
    intro o ho a W hS hsz hdf hfr hdep K hK
    obtain ⟨tm, df⟩ := a
    have hdf : df = [] := hdf
    subst hdf
    have ho := Option.some.inj ho
    subst ho
    have hsz : tm.size = 24 := hsz
    have t16 : tm.getD 16 undef = .pointer (some (ad0.add 1)) := hdep ⟨11, .data⟩ (by simp) (by rfl) (by decide) W (Below.refl _ W)
    have t13 : tm.getD 13 undef = .bool true := hdep ⟨8, .guard⟩ (by simp) (by rfl) (by decide) W (Below.refl _ W)
    have u13 : tm[13]'(by omega) = .bool true := getq t13 (by omega)
    have cz : W.cell? { block := ad0.block, off := ad0.off + 1 } = some (.int .i64 (x1 : Int)) := by have h9 := HC1.out W hS; simpa [Addr.add] using h9
    clear hdep hfr
    go_simp
    exact hK _ W (Below.refl _ W) (fun W9 hb => rfl)
   case s13 =>
    intro o ho a W hS hsz hdf hfr hdep K hK
    obtain ⟨tm, df⟩ := a
    have hdf : df = [] := hdf
    subst hdf
    have ho := Option.some.inj ho
    subst ho
    have hsz : tm.size = 24 := hsz
    have t1 : tm.getD 1 undef = .slice (some ad0) 2 d := hfr 1 (by decide)
    have t13 : tm.getD 13 undef = .bool true := hdep ⟨8, .guard⟩ (by simp) (by rfl) (by decide) W (Below.refl _ W)
    have u13 : tm[13]'(by omega) = .bool true := getq t13 (by omega)
    clear hdep hfr
    go_simp
    exact hK _ W (Below.refl _ W) (fun W9 hb => rfl)
   case s14 =>
    intro o ho a W hS hsz hdf hfr hdep K hK
    obtain ⟨tm, df⟩ := a
    have hdf : df = [] := hdf
    subst hdf
    have ho := Option.some.inj ho
    subst ho
    have hsz : tm.size = 24 := hsz
    have t18 : tm.getD 18 undef = .slice (some ad0) 2 d := hdep ⟨13, .data⟩ (by simp) (by rfl) (by decide) W (Below.refl _ W)
    have t13 : tm.getD 13 undef = .bool true := hdep ⟨8, .guard⟩ (by simp) (by rfl) (by decide) W (Below.refl _ W)
    have u13 : tm[13]'(by omega) = .bool true := getq t13 (by omega)
    clear hdep hfr
    go_simp
    exact hK _ W (Below.refl _ W) (fun W9 hb => rfl)
   case s15 =>
    intro o ho a W hS hsz hdf hfr hdep K hK
    obtain ⟨tm, df⟩ := a
    have hdf : df = [] := hdf
    subst hdf
    have ho := Option.some.inj ho
    subst ho
    have hsz : tm.size = 24 := hsz
    have t19 : tm.getD 19 undef = .pointer (some ad0) := hdep ⟨14, .data⟩ (by simp) (by rfl) (by decide) W (Below.refl _ W)
    have t13 : tm.getD 13 undef = .bool true := hdep ⟨8, .guard⟩ (by simp) (by rfl) (by decide) W (Below.refl _ W)
    have u13 : tm[13]'(by omega) = .bool true := getq t13 (by omega)
    have cz := HC0.out W hS
    rw [add_nil] at cz
    clear hdep hfr
    go_simp
    exact hK _ W (Below.refl _ W) (fun W9 hb => rfl)
   case s16 =>
    intro o ho a W hS hsz hdf hfr hdep K hK
    obtain ⟨tm, df⟩ := a
    have hdf : df = [] := hdf
    subst hdf
    have ho := Option.some.inj ho
    subst ho
    have hsz : tm.size = 24 := hsz
    have t14 : tm.getD 14 undef = .slice A n c := hdep ⟨9, .data⟩ (by simp) (by rfl) (by decide) W (Below.refl _ W)
    have t17 : tm.getD 17 undef = .int .i64 (x1 : Int) := hdep ⟨12, .data⟩ (by simp) (by rfl) (by decide) W (Below.refl _ W)
    have t20 : tm.getD 20 undef = .int .i64 (x0 : Int) := hdep ⟨15, .data⟩ (by simp) (by rfl) (by decide) W (Below.refl _ W)
    have t13 : tm.getD 13 undef = .bool true := hdep ⟨8, .guard⟩ (by simp) (by rfl) (by decide) W (Below.refl _ W)
    have u13 : tm[13]'(by omega) = .bool true := getq t13 (by omega)
    clear hdep hfr
    go_simp
    refine (HL1.out W hS).mono ?_
    rintro e W9 ⟨rfl, rfl⟩
    exact hK _ _ (Below.refl _ _) (fun W8 hc => rfl)
   case s17 =>
    intro o ho a W hS hsz hdf hfr hdep K hK
    obtain ⟨tm, df⟩ := a
    have hdf : df = [] := hdf
    subst hdf
    have ho := Option.some.inj ho
    subst ho
    have hsz : tm.size = 24 := hsz
    have t21 : tm.getD 21 undef = .bool b1 := hdep ⟨16, .data⟩ (by simp) (by rfl) (by decide) W (Below.refl _ W)
    have t13 : tm.getD 13 undef = .bool true := hdep ⟨8, .guard⟩ (by simp) (by rfl) (by decide) W (Below.refl _ W)
    have u13 : tm[13]'(by omega) = .bool true := getq t13 (by omega)
    clear hdep hfr
    go_simp
    exact hK _ W (Below.refl _ W) (fun W9 hb => rfl)
   case s18 =>
    intro o ho a W hS hsz hdf hfr hdep K hK
    obtain ⟨tm, df⟩ := a
    have hdf : df = [] := hdf
    subst hdf
    have ho := Option.some.inj ho
    subst ho
    have hsz : tm.size = 24 := hsz
    have t13 : tm.getD 13 undef = .bool true := hdep ⟨8, .data⟩ (by simp) (by rfl) (by decide) W (Below.refl _ W)
    have t22 : tm.getD 22 undef = .bool (!b1) := hdep ⟨17, .data⟩ (by simp) (by rfl) (by decide) W (Below.refl _ W)
    clear hdep hfr
    go_simp
    exact hK _ W (Below.refl _ W) (fun W9 hb => rfl)
   case s19 =>
    intro o ho a W hS hsz hdf hfr hdep K hK
    obtain ⟨tm, df⟩ := a
    have hdf : df = [] := hdf
    subst hdf
    have ho := Option.some.inj ho
    subst ho
    have hsz : tm.size = 24 := hsz
    have t23 : tm.getD 23 undef = .bool (!b1) := hdep ⟨18, .data⟩ (by simp) (by rfl) (by decide) W (Below.refl _ W)
    clear hdep hfr
    go_simp
    exact hK _ W (Below.refl _ W) (fun W9 hb => rfl)
  case fin =>
   intro W hS
   simp only [fillD]
   go_simp
   go_wp2
   go_ret
   exact ⟨rfl, hS⟩
set_option maxHeartbeats 4000000 in
theorem show4_any (l x : List Nat) (A D : Option Addr) (n c d : Nat) (w : World) (hR : Reads w w.heap.size 1 A n (us l)) (hw : Words l) (hn : n ≤ 64) (hX : Reads w w.heap.size 1 D 3 (iv x)) (hx : ∀ k, k < 3 → x.getD k 0 < n) :
  Calls Tryz.prog 102 #[.slice A n c, .slice D 3 d] w fun e w' => e = .returned (.bool (shB 4 l x)) ∧ Below w.heap.size w w' := by
 obtain ⟨ad0, hD0, hb0, hc0⟩ := iv_at hX (k := 0) (by omega)
 have hx0 := hx 0 (by omega)
 obtain ⟨ad1, hD1, hb1, hc1⟩ := iv_at hX (k := 1) (by omega)
 have hx1 := hx 1 (by omega)
 obtain ⟨ad2, hD2, hb2, hc2⟩ := iv_at hX (k := 2) (by omega)
 have hx2 := hx 2 (by omega)
 subst hD0
 injection hD1 with hD1
 subst hD1
 injection hD2 with hD2
 subst hD2
 have hb := hb0
 have HC0 := Lib.hid (fun W (hW : Below w.heap.size w W) => (hW.cell (p := ad0.add 0) (by rw [block_of_add]; exact hb0)).trans hc0)
 have HC1 := Lib.hid (fun W (hW : Below w.heap.size w W) => (hW.cell (p := ad0.add 1) (by rw [block_of_add]; exact hb1)).trans hc1)
 have HC2 := Lib.hid (fun W (hW : Below w.heap.size w W) => (hW.cell (p := ad0.add 2) (by rw [block_of_add]; exact hb2)).trans hc2)
 have HL0 := Lib.hid (fun W (hW : Below w.heap.size w W) => leads_any l A n c (x.getD 0 0) (x.getD 1 0) W ((hR.below hW).more hW.size) hw hx0 (by omega))
 have HL1 := Lib.hid (fun W (hW : Below w.heap.size w W) => leads_any l A n c (x.getD 1 0) (x.getD 2 0) W ((hR.below hW).more hW.size) hw hx1 (by omega))
 have HL2 := Lib.hid (fun W (hW : Below w.heap.size w W) => leads_any l A n c (x.getD 0 0) (x.getD 2 0) W ((hR.below hW).more hW.size) hw hx0 (by omega))
 have e : shB 4 l x = (bit l (x.getD 0 0) (x.getD 1 0) && bit l (x.getD 1 0) (x.getD 2 0) && !bit l (x.getD 0 0) (x.getD 2 0)) := rfl
 rw [e]
 clear e hR hX hx hc0 hb0 hx0 hc1 hb1 hx1 hc2 hb2 hx2
 generalize bit l (x.getD 0 0) (x.getD 1 0) = b0 at *
 generalize bit l (x.getD 1 0) (x.getD 2 0) = b1 at *
 generalize bit l (x.getD 0 0) (x.getD 2 0) = b2 at *
 generalize x.getD 0 0 = x0 at *
 generalize x.getD 1 0 = x1 at *
 generalize x.getD 2 0 = x2 at *
 cases b0
 case false =>
  go_enter Tryz.func102, Tryz.ntmps102
  go_wp2
  refine wp_region_constD [.slice A n c, .slice (some ad0) 3 d, .pointer (some ad0), .int .i64 (x0 : Int), .slice (some ad0) 3 d, .pointer (some (ad0.add 1)), .int .i64 (x1 : Int), .bool false, .bool false, undef, undef, undef, undef, undef, undef, undef, undef, .bool false, .bool false, undef, undef, undef, undef, undef, undef, undef, undef, undef, .bool false, .bool false] [5, 6, 7, 8, 9, 10, 11, 12, 13, 14, 15, 16, 17, 18, 19, 20, 21, 22, 23, 24, 25, 26, 27, 28, 29, 30, 31, 32, 33, 4] (fun W => Below w.heap.size w W) (fun W W' => Below W.heap.size W W') 30 34 rfl rfl rfl rfl (by decide) (by decide) (by kernel_rfl) (by kernel_rfl) (by kernel_rfl) (fun W => Below.refl _ W) (fun W1 W2 W3 h1 h2 => h1.trans (h2.mono h1.size)) (fun W W' h h2 => h.trans (h2.mono h.size)) (Below.refl _ w).drew ?hop ?fin
  case hop =>
   refine (lt_more (lt_more (lt_more (lt_more (lt_more (lt_more (lt_more (lt_more (lt_more (lt_more (lt_more (lt_more (lt_more (lt_more (lt_more (lt_more (lt_more (lt_more (lt_more (lt_more (lt_more (lt_more (lt_more (lt_more (lt_more (lt_more (lt_more (lt_more (lt_more (lt_more (lt_none _) ?s0) ?s1) ?s2) ?s3) ?s4) ?s5) ?s6) ?s7) ?s8) ?s9) ?s10) ?s11) ?s12) ?s13) ?s14) ?s15) ?s16) ?s17) ?s18) ?s19) ?s20) ?s21) ?s22) ?s23) ?s24) ?s25) ?s26) ?s27) ?s28) ?s29)
   case s0 =>
    intro o ho a W hS hsz hdf hfr hdep K hK
    obtain ⟨tm, df⟩ := a
    have hdf : df = [] := hdf
    subst hdf
    have ho := Option.some.inj ho
    subst ho
    have hsz : tm.size = 34 := hsz
    have t0 : tm.getD 0 undef = .slice A n c := hfr 0 (by decide)
    clear hdep hfr
    go_simp
    exact hK _ W (Below.refl _ W) (fun W9 hb => rfl)
   case s1 =>
    intro o ho a W hS hsz hdf hfr hdep K hK
    obtain ⟨tm, df⟩ := a
    have hdf : df = [] := hdf
    subst hdf
    have ho := Option.some.inj ho
    subst ho
    have hsz : tm.size = 34 := hsz
    have t1 : tm.getD 1 undef = .slice (some ad0) 3 d := hfr 1 (by decide)
    clear hdep hfr
    go_simp
    exact hK _ W (Below.refl _ W) (fun W9 hb => rfl)
   case s2 =>
    intro o ho a W hS hsz hdf hfr hdep K hK
    obtain ⟨tm, df⟩ := a
    have hdf : df = [] := hdf
    subst hdf
    have ho := Option.some.inj ho
    subst ho
    have hsz : tm.size = 34 := hsz
    have t6 : tm.getD 6 undef = .slice (some ad0) 3 d := hdep ⟨1, .data⟩ (by simp) (by rfl) (by decide) W (Below.refl _ W)
    clear hdep hfr
    go_simp
    exact hK _ W (Below.refl _ W) (fun W9 hb => rfl)
   case s3 =>
    intro o ho a W hS hsz hdf hfr hdep K hK
    obtain ⟨tm, df⟩ := a
    have hdf : df = [] := hdf
    subst hdf
    have ho := Option.some.inj ho
    subst ho
    have hsz : tm.size = 34 := hsz
    have t7 : tm.getD 7 undef = .pointer (some ad0) := hdep ⟨2, .data⟩ (by simp) (by rfl) (by decide) W (Below.refl _ W)
    have cz := HC0.out W hS
    rw [add_nil] at cz
    clear hdep hfr
    go_simp
    exact hK _ W (Below.refl _ W) (fun W9 hb => rfl)
   case s4 =>
    intro o ho a W hS hsz hdf hfr hdep K hK
    obtain ⟨tm, df⟩ := a
    have hdf : df = [] := hdf
    subst hdf
    have ho := Option.some.inj ho
    subst ho
    have hsz : tm.size = 34 := hsz
    have t1 : tm.getD 1 undef = .slice (some ad0) 3 d := hfr 1 (by decide)
    clear hdep hfr
    go_simp
    exact hK _ W (Below.refl _ W) (fun W9 hb => rfl)
   case s5 =>
    intro o ho a W hS hsz hdf hfr hdep K hK
    obtain ⟨tm, df⟩ := a
    have hdf : df = [] := hdf
    subst hdf
    have ho := Option.some.inj ho
    subst ho
    have hsz : tm.size = 34 := hsz
    have t9 : tm.getD 9 undef = .slice (some ad0) 3 d := hdep ⟨4, .data⟩ (by simp) (by rfl) (by decide) W (Below.refl _ W)
    clear hdep hfr
    go_simp
    exact hK _ W (Below.refl _ W) (fun W9 hb => rfl)
   case s6 =>
    intro o ho a W hS hsz hdf hfr hdep K hK
    obtain ⟨tm, df⟩ := a
    have hdf : df = [] := hdf
    subst hdf
    have ho := Option.some.inj ho
    subst ho
    have hsz : tm.size = 34 := hsz
    have t10 : tm.getD 10 undef = .pointer (some (ad0.add 1)) := hdep ⟨5, .data⟩ (by simp) (by rfl) (by decide) W (Below.refl _ W)
    have cz : W.cell? { block := ad0.block, off := ad0.off + 1 } = some (.int .i64 (x1 : Int)) := by have h9 := HC1.out W hS; simpa [Addr.add] using h9
    clear hdep hfr
    go_simp
    exact hK _ W (Below.refl _ W) (fun W9 hb => rfl)
   case s7 =>
    intro o ho a W hS hsz hdf hfr hdep K hK
    obtain ⟨tm, df⟩ := a
    have hdf : df = [] := hdf
    subst hdf
    have ho := Option.some.inj ho
    subst ho
    have hsz : tm.size = 34 := hsz
    have t5 : tm.getD 5 undef = .slice A n c := hdep ⟨0, .data⟩ (by simp) (by rfl) (by decide) W (Below.refl _ W)
    have t8 : tm.getD 8 undef = .int .i64 (x0 : Int) := hdep ⟨3, .data⟩ (by simp) (by rfl) (by decide) W (Below.refl _ W)
    have t11 : tm.getD 11 undef = .int .i64 (x1 : Int) := hdep ⟨6, .data⟩ (by simp) (by rfl) (by decide) W (Below.refl _ W)
    clear hdep hfr
    go_simp
    refine (HL0.out W hS).mono ?_
    rintro e W9 ⟨rfl, rfl⟩
    exact hK _ _ (Below.refl _ _) (fun W8 hc => rfl)
   case s8 =>
    intro o ho a W hS hsz hdf hfr hdep K hK
    obtain ⟨tm, df⟩ := a
    have hdf : df = [] := hdf
    subst hdf
    have ho := Option.some.inj ho
    subst ho
    have hsz : tm.size = 34 := hsz
    have t12 : tm.getD 12 undef = .bool false := hdep ⟨7, .data⟩ (by simp) (by rfl) (by decide) W (Below.refl _ W)
    clear hdep hfr
    go_simp
    exact hK _ W (Below.refl _ W) (fun W9 hb => rfl)
   case s9 =>
    intro o ho a W hS hsz hdf hfr hdep K hK
    obtain ⟨tm, df⟩ := a
    have hdf : df = [] := hdf
    subst hdf
    have ho := Option.some.inj ho
    subst ho
    have hsz : tm.size = 34 := hsz
    have t13 : tm.getD 13 undef = .bool false := hdep ⟨8, .guard⟩ (by simp) (by rfl) (by decide) W (Below.refl _ W)
    have u13 : tm[13]'(by omega) = .bool false := getq t13 (by omega)
    clear hdep hfr
    go_simp
    exact hK _ W (Below.refl _ W) (fun W9 hb => rfl)
   case s10 =>
    intro o ho a W hS hsz hdf hfr hdep K hK
    obtain ⟨tm, df⟩ := a
    have hdf : df = [] := hdf
    subst hdf
    have ho := Option.some.inj ho
    subst ho
    have hsz : tm.size = 34 := hsz
    have t13 : tm.getD 13 undef = .bool false := hdep ⟨8, .guard⟩ (by simp) (by rfl) (by decide) W (Below.refl _ W)
    have u13 : tm[13]'(by omega) = .bool false := getq t13 (by omega)
    clear hdep hfr
    go_simp
    exact hK _ W (Below.refl _ W) (fun W9 hb => rfl)
   case s11 =>
    intro o ho a W hS hsz hdf hfr hdep K hK
    obtain ⟨tm, df⟩ := a
    have hdf : df = [] := hdf
    subst hdf
    have ho := Option.some.inj ho
    subst ho
    have hsz : tm.size = 34 := hsz
    have t13 : tm.getD 13 undef = .bool false := hdep ⟨8, .guard⟩ (by simp) (by rfl) (by decide) W (Below.refl _ W)
    have u13 : tm[13]'(by omega) = .bool false := getq t13 (by omega)
    clear hdep hfr
    go_simp
    exact hK _ W (Below.refl _ W) (fun W9 hb => rfl)
   case s12 =>
    intro o ho a W hS hsz hdf hfr hdep K hK
    obtain ⟨tm, df⟩ := a
    have hdf : df = [] := hdf
    subst hdf
    have ho := Option.some.inj ho
    subst ho
    have hsz : tm.size = 34 := hsz
    have t13 : tm.getD 13 undef = .bool false := hdep ⟨8, .guard⟩ (by simp) (by rfl) (by decide) W (Below.refl _ W)
    have u13 : tm[13]'(by omega) = .bool false := getq t13 (by omega)
    clear hdep hfr
    go_simp
    exact hK _ W (Below.refl _ W) (fun W9 hb => rfl)
   case s13 =>
    intro o ho a W hS hsz hdf hfr hdep K hK
    obtain ⟨tm, df⟩ := a
    have hdf : df = [] := hdf
    subst hdf
    have ho := Option.some.inj ho
    subst ho
    have hsz : tm.size = 34 := hsz
    have t13 : tm.getD 13 undef = .bool false := hdep ⟨8, .guard⟩ (by simp) (by rfl) (by decide) W (Below.refl _ W)
    have u13 : tm[13]'(by omega) = .bool false := getq t13 (by omega)
    clear hdep hfr
    go_simp
    exact hK _ W (Below.refl _ W) (fun W9 hb => rfl)
   case s14 =>
    intro o ho a W hS hsz hdf hfr hdep K hK
    obtain ⟨tm, df⟩ := a
    have hdf : df = [] := hdf
    subst hdf
    have ho := Option.some.inj ho
    subst ho
    have hsz : tm.size = 34 := hsz
    have t13 : tm.getD 13 undef = .bool false := hdep ⟨8, .guard⟩ (by simp) (by rfl) (by decide) W (Below.refl _ W)
    have u13 : tm[13]'(by omega) = .bool false := getq t13 (by omega)
    clear hdep hfr
    go_simp
    exact hK _ W (Below.refl _ W) (fun W9 hb => rfl)
   case s15 =>
    intro o ho a W hS hsz hdf hfr hdep K hK
    obtain ⟨tm, df⟩ := a
    have hdf : df = [] := hdf
    subst hdf
    have ho := Option.some.inj ho
    subst ho
    have hsz : tm.size = 34 := hsz
    have t13 : tm.getD 13 undef = .bool false := hdep ⟨8, .guard⟩ (by simp) (by rfl) (by decide) W (Below.refl _ W)
    have u13 : tm[13]'(by omega) = .bool false := getq t13 (by omega)
    clear hdep hfr
    go_simp
    exact hK _ W (Below.refl _ W) (fun W9 hb => rfl)
   case s16 =>
    intro o ho a W hS hsz hdf hfr hdep K hK
    obtain ⟨tm, df⟩ := a
    have hdf : df = [] := hdf
    subst hdf
    have ho := Option.some.inj ho
    subst ho
    have hsz : tm.size = 34 := hsz
    have t13 : tm.getD 13 undef = .bool false := hdep ⟨8, .guard⟩ (by simp) (by rfl) (by decide) W (Below.refl _ W)
    have u13 : tm[13]'(by omega) = .bool false := getq t13 (by omega)
    clear hdep hfr
    go_simp
    exact hK _ W (Below.refl _ W) (fun W9 hb => rfl)
   case s17 =>
    intro o ho a W hS hsz hdf hfr hdep K hK
    obtain ⟨tm, df⟩ := a
    have hdf : df = [] := hdf
    subst hdf
    have ho := Option.some.inj ho
    subst ho
    have hsz : tm.size = 34 := hsz
    have t13 : tm.getD 13 undef = .bool false := hdep ⟨8, .data⟩ (by simp) (by rfl) (by decide) W (Below.refl _ W)
    have t21 : tm.getD 21 undef = undef := hdep ⟨16, .data⟩ (by simp) (by rfl) (by decide) W (Below.refl _ W)
    clear hdep hfr
    go_simp
    exact hK _ W (Below.refl _ W) (fun W9 hb => rfl)
   case s18 =>
    intro o ho a W hS hsz hdf hfr hdep K hK
    obtain ⟨tm, df⟩ := a
    have hdf : df = [] := hdf
    subst hdf
    have ho := Option.some.inj ho
    subst ho
    have hsz : tm.size = 34 := hsz
    have t22 : tm.getD 22 undef = .bool false := hdep ⟨17, .data⟩ (by simp) (by rfl) (by decide) W (Below.refl _ W)
    clear hdep hfr
    go_simp
    exact hK _ W (Below.refl _ W) (fun W9 hb => rfl)
   case s19 =>
    intro o ho a W hS hsz hdf hfr hdep K hK
    obtain ⟨tm, df⟩ := a
    have hdf : df = [] := hdf
    subst hdf
    have ho := Option.some.inj ho
    subst ho
    have hsz : tm.size = 34 := hsz
    have t23 : tm.getD 23 undef = .bool false := hdep ⟨18, .guard⟩ (by simp) (by rfl) (by decide) W (Below.refl _ W)
    have u23 : tm[23]'(by omega) = .bool false := getq t23 (by omega)
    clear hdep hfr
    go_simp
    exact hK _ W (Below.refl _ W) (fun W9 hb => rfl)
   case s20 =>
    intro o ho a W hS hsz hdf hfr hdep K hK
    obtain ⟨tm, df⟩ := a
    have hdf : df = [] := hdf
    subst hdf
    have ho := Option.some.inj ho
    subst ho
    have hsz : tm.size = 34 := hsz
    have t23 : tm.getD 23 undef = .bool false := hdep ⟨18, .guard⟩ (by simp) (by rfl) (by decide) W (Below.refl _ W)
    have u23 : tm[23]'(by omega) = .bool false := getq t23 (by omega)
    clear hdep hfr
    go_simp
    exact hK _ W (Below.refl _ W) (fun W9 hb => rfl)
   case s21 =>
    intro o ho a W hS hsz hdf hfr hdep K hK
    obtain ⟨tm, df⟩ := a
    have hdf : df = [] := hdf
    subst hdf
    have ho := Option.some.inj ho
    subst ho
    have hsz : tm.size = 34 := hsz
    have t23 : tm.getD 23 undef = .bool false := hdep ⟨18, .guard⟩ (by simp) (by rfl) (by decide) W (Below.refl _ W)
    have u23 : tm[23]'(by omega) = .bool false := getq t23 (by omega)
    clear hdep hfr
    go_simp
    exact hK _ W (Below.refl _ W) (fun W9 hb => rfl)
   case s22 =>
    intro o ho a W hS hsz hdf hfr hdep K hK
    obtain ⟨tm, df⟩ := a
    have hdf : df = [] := hdf
    subst hdf
    have ho := Option.some.inj ho
    subst ho
    have hsz : tm.size = 34 := hsz
    have t23 : tm.getD 23 undef = .bool false := hdep ⟨18, .guard⟩ (by simp) (by rfl) (by decide) W (Below.refl _ W)
    have u23 : tm[23]'(by omega) = .bool false := getq t23 (by omega)
    clear hdep hfr
    go_simp
    exact hK _ W (Below.refl _ W) (fun W9 hb => rfl)
   case s23 =>
    intro o ho a W hS hsz hdf hfr hdep K hK
    obtain ⟨tm, df⟩ := a
    have hdf : df = [] := hdf
    subst hdf
    have ho := Option.some.inj ho
    subst ho
    have hsz : tm.size = 34 := hsz
    have t23 : tm.getD 23 undef = .bool false := hdep ⟨18, .guard⟩ (by simp) (by rfl) (by decide) W (Below.refl _ W)
    have u23 : tm[23]'(by omega) = .bool false := getq t23 (by omega)
    clear hdep hfr
    go_simp
    exact hK _ W (Below.refl _ W) (fun W9 hb => rfl)
   case s24 =>
    intro o ho a W hS hsz hdf hfr hdep K hK
    obtain ⟨tm, df⟩ := a
    have hdf : df = [] := hdf
    subst hdf
    have ho := Option.some.inj ho
    subst ho
    have hsz : tm.size = 34 := hsz
    have t23 : tm.getD 23 undef = .bool false := hdep ⟨18, .guard⟩ (by simp) (by rfl) (by decide) W (Below.refl _ W)
    have u23 : tm[23]'(by omega) = .bool false := getq t23 (by omega)
    clear hdep hfr
    go_simp
    exact hK _ W (Below.refl _ W) (fun W9 hb => rfl)
   case s25 =>
    intro o ho a W hS hsz hdf hfr hdep K hK
    obtain ⟨tm, df⟩ := a
    have hdf : df = [] := hdf
    subst hdf
    have ho := Option.some.inj ho
    subst ho
    have hsz : tm.size = 34 := hsz
    have t23 : tm.getD 23 undef = .bool false := hdep ⟨18, .guard⟩ (by simp) (by rfl) (by decide) W (Below.refl _ W)
    have u23 : tm[23]'(by omega) = .bool false := getq t23 (by omega)
    clear hdep hfr
    go_simp
    exact hK _ W (Below.refl _ W) (fun W9 hb => rfl)
   case s26 =>
    intro o ho a W hS hsz hdf hfr hdep K hK
    obtain ⟨tm, df⟩ := a
    have hdf : df = [] := hdf
    subst hdf
    have ho := Option.some.inj ho
    subst ho
    have hsz : tm.size = 34 := hsz
    have t23 : tm.getD 23 undef = .bool false := hdep ⟨18, .guard⟩ (by simp) (by rfl) (by decide) W (Below.refl _ W)
    have u23 : tm[23]'(by omega) = .bool false := getq t23 (by omega)
    clear hdep hfr
    go_simp
    exact hK _ W (Below.refl _ W) (fun W9 hb => rfl)
   case s27 =>
    intro o ho a W hS hsz hdf hfr hdep K hK
    obtain ⟨tm, df⟩ := a
    have hdf : df = [] := hdf
    subst hdf
    have ho := Option.some.inj ho
    subst ho
    have hsz : tm.size = 34 := hsz
    have t23 : tm.getD 23 undef = .bool false := hdep ⟨18, .guard⟩ (by simp) (by rfl) (by decide) W (Below.refl _ W)
    have u23 : tm[23]'(by omega) = .bool false := getq t23 (by omega)
    clear hdep hfr
    go_simp
    exact hK _ W (Below.refl _ W) (fun W9 hb => rfl)
   case s28 =>
    intro o ho a W hS hsz hdf hfr hdep K hK
    obtain ⟨tm, df⟩ := a
    have hdf : df = [] := hdf
    subst hdf
    have ho := Option.some.inj ho
    subst ho
    have hsz : tm.size = 34 := hsz
    have t23 : tm.getD 23 undef = .bool false := hdep ⟨18, .data⟩ (by simp) (by rfl) (by decide) W (Below.refl _ W)
    have t32 : tm.getD 32 undef = undef := hdep ⟨27, .data⟩ (by simp) (by rfl) (by decide) W (Below.refl _ W)
    clear hdep hfr
    go_simp
    exact hK _ W (Below.refl _ W) (fun W9 hb => rfl)
   case s29 =>
    intro o ho a W hS hsz hdf hfr hdep K hK
    obtain ⟨tm, df⟩ := a
    have hdf : df = [] := hdf
    subst hdf
    have ho := Option.some.inj ho
    subst ho
    have hsz : tm.size = 34 := hsz
    have t33 : tm.getD 33 undef = .bool false := hdep ⟨28, .data⟩ (by simp) (by rfl) (by decide) W (Below.refl _ W)
    clear hdep hfr
    go_simp
    exact hK _ W (Below.refl _ W) (fun W9 hb => rfl)
  case fin =>
   intro W hS
   simp only [fillD]
   go_simp
   go_wp2
   go_ret
   exact ⟨rfl, hS⟩
 case true =>
  cases b1
  case false =>
   go_enter Tryz.func102, Tryz.ntmps102
   go_wp2
   refine wp_region_constD [.slice A n c, .slice (some ad0) 3 d, .pointer (some ad0), .int .i64 (x0 : Int), .slice (some ad0) 3 d, .pointer (some (ad0.add 1)), .int .i64 (x1 : Int), .bool true, .bool true, .slice A n c, .slice (some ad0) 3 d, .pointer (some (ad0.add 1)), .int .i64 (x1 : Int), .slice (some ad0) 3 d, .pointer (some (ad0.add 2)), .int .i64 (x2 : Int), .bool false, .bool false, .bool false, undef, undef, undef, undef, undef, undef, undef, undef, undef, .bool false, .bool false] [5, 6, 7, 8, 9, 10, 11, 12, 13, 14, 15, 16, 17, 18, 19, 20, 21, 22, 23, 24, 25, 26, 27, 28, 29, 30, 31, 32, 33, 4] (fun W => Below w.heap.size w W) (fun W W' => Below W.heap.size W W') 30 34 rfl rfl rfl rfl (by decide) (by decide) (by kernel_rfl) (by kernel_rfl) (by kernel_rfl) (fun W => Below.refl _ W) (fun W1 W2 W3 h1 h2 => h1.trans (h2.mono h1.size)) (fun W W' h h2 => h.trans (h2.mono h.size)) (Below.refl _ w).drew ?hop ?fin
   case hop =>
    refine (lt_more (lt_more (lt_more (lt_more (lt_more (lt_more (lt_more (lt_more (lt_more (lt_more (lt_more (lt_more (lt_more (lt_more (lt_more (lt_more (lt_more (lt_more (lt_more (lt_more (lt_more (lt_more (lt_more (lt_more (lt_more (lt_more (lt_more (lt_more (lt_more (lt_more (lt_none _) ?s0) ?s1) ?s2) ?s3) ?s4) ?s5) ?s6) ?s7) ?s8) ?s9) ?s10) ?s11) ?s12) ?s13) ?s14) ?s15) ?s16) ?s17) ?s18) ?s19) ?s20) ?s21) ?s22) ?s23) ?s24) ?s25) ?s26) ?s27) ?s28) ?s29)
    case s0 =>
     intro o ho a W hS hsz hdf hfr hdep K hK
     obtain ⟨tm, df⟩ := a
     have hdf : df = [] := hdf
     subst hdf
     have ho := Option.some.inj ho
     subst ho
     have hsz : tm.size = 34 := hsz
     have t0 : tm.getD 0 undef = .slice A n c := hfr 0 (by decide)
     clear hdep hfr
     go_simp
     exact hK _ W (Below.refl _ W) (fun W9 hb => rfl)
    case s1 =>
     intro o ho a W hS hsz hdf hfr hdep K hK
     obtain ⟨tm, df⟩ := a
     have hdf : df = [] := hdf
     subst hdf
     have ho := Option.some.inj ho
     subst ho
     have hsz : tm.size = 34 := hsz
     have t1 : tm.getD 1 undef = .slice (some ad0) 3 d := hfr 1 (by decide)
     clear hdep hfr
     go_simp
     exact hK _ W (Below.refl _ W) (fun W9 hb => rfl)
    case s2 =>
     intro o ho a W hS hsz hdf hfr hdep K hK
     obtain ⟨tm, df⟩ := a
     have hdf : df = [] := hdf
     subst hdf
     have ho := Option.some.inj ho
     subst ho
     have hsz : tm.size = 34 := hsz
     have t6 : tm.getD 6 undef = .slice (some ad0) 3 d := hdep ⟨1, .data⟩ (by simp) (by rfl) (by decide) W (Below.refl _ W)
     clear hdep hfr
     go_simp
     exact hK _ W (Below.refl _ W) (fun W9 hb => rfl)
    case s3 =>
     intro o ho a W hS hsz hdf hfr hdep K hK
     obtain ⟨tm, df⟩ := a
     have hdf : df = [] := hdf
     subst hdf
     have ho := Option.some.inj ho
     subst ho
     have hsz : tm.size = 34 := hsz
     have t7 : tm.getD 7 undef = .pointer (some ad0) := hdep ⟨2, .data⟩ (by simp) (by rfl) (by decide) W (Below.refl _ W)
     have cz := HC0.out W hS
     rw [add_nil] at cz
     clear hdep hfr
     go_simp
     exact hK _ W (Below.refl _ W) (fun W9 hb => rfl)
    case s4 =>
     intro o ho a W hS hsz hdf hfr hdep K hK
     obtain ⟨tm, df⟩ := a
     have hdf : df = [] := hdf
     subst hdf
     have ho := Option.some.inj ho
     subst ho
     have hsz : tm.size = 34 := hsz
     have t1 : tm.getD 1 undef = .slice (some ad0) 3 d := hfr 1 (by decide)
     clear hdep hfr
     go_simp
     exact hK _ W (Below.refl _ W) (fun W9 hb => rfl)
    case s5 =>
     intro o ho a W hS hsz hdf hfr hdep K hK
     obtain ⟨tm, df⟩ := a
     have hdf : df = [] := hdf
     subst hdf
     have ho := Option.some.inj ho
     subst ho
     have hsz : tm.size = 34 := hsz
     have t9 : tm.getD 9 undef = .slice (some ad0) 3 d := hdep ⟨4, .data⟩ (by simp) (by rfl) (by decide) W (Below.refl _ W)
     clear hdep hfr
     go_simp
     exact hK _ W (Below.refl _ W) (fun W9 hb => rfl)
    case s6 =>
     intro o ho a W hS hsz hdf hfr hdep K hK
     obtain ⟨tm, df⟩ := a
     have hdf : df = [] := hdf
     subst hdf
     have ho := Option.some.inj ho
     subst ho
     have hsz : tm.size = 34 := hsz
     have t10 : tm.getD 10 undef = .pointer (some (ad0.add 1)) := hdep ⟨5, .data⟩ (by simp) (by rfl) (by decide) W (Below.refl _ W)
     have cz : W.cell? { block := ad0.block, off := ad0.off + 1 } = some (.int .i64 (x1 : Int)) := by have h9 := HC1.out W hS; simpa [Addr.add] using h9
     clear hdep hfr
     go_simp
     exact hK _ W (Below.refl _ W) (fun W9 hb => rfl)
    case s7 =>
     intro o ho a W hS hsz hdf hfr hdep K hK
     obtain ⟨tm, df⟩ := a
     have hdf : df = [] := hdf
     subst hdf
     have ho := Option.some.inj ho
     subst ho
     have hsz : tm.size = 34 := hsz
     have t5 : tm.getD 5 undef = .slice A n c := hdep ⟨0, .data⟩ (by simp) (by rfl) (by decide) W (Below.refl _ W)
     have t8 : tm.getD 8 undef = .int .i64 (x0 : Int) := hdep ⟨3, .data⟩ (by simp) (by rfl) (by decide) W (Below.refl _ W)
     have t11 : tm.getD 11 undef = .int .i64 (x1 : Int) := hdep ⟨6, .data⟩ (by simp) (by rfl) (by decide) W (Below.refl _ W)
     clear hdep hfr
     go_simp
     refine (HL0.out W hS).mono ?_
     rintro e W9 ⟨rfl, rfl⟩
     exact hK _ _ (Below.refl _ _) (fun W8 hc => rfl)
    case s8 =>
     intro o ho a W hS hsz hdf hfr hdep K hK
     obtain ⟨tm, df⟩ := a
     have hdf : df = [] := hdf
     subst hdf
     have ho := Option.some.inj ho
     subst ho
     have hsz : tm.size = 34 := hsz
     have t12 : tm.getD 12 undef = .bool true := hdep ⟨7, .data⟩ (by simp) (by rfl) (by decide) W (Below.refl _ W)
     clear hdep hfr
     go_simp
     exact hK _ W (Below.refl _ W) (fun W9 hb => rfl)
    case s9 =>
     intro o ho a W hS hsz hdf hfr hdep K hK
     obtain ⟨tm, df⟩ := a
     have hdf : df = [] := hdf
     subst hdf
     have ho := Option.some.inj ho
     subst ho
     have hsz : tm.size = 34 := hsz
     have t0 : tm.getD 0 undef = .slice A n c := hfr 0 (by decide)
     have t13 : tm.getD 13 undef = .bool true := hdep ⟨8, .guard⟩ (by simp) (by rfl) (by decide) W (Below.refl _ W)
     have u13 : tm[13]'(by omega) = .bool true := getq t13 (by omega)
     clear hdep hfr
     go_simp
     exact hK _ W (Below.refl _ W) (fun W9 hb => rfl)
    case s10 =>
     intro o ho a W hS hsz hdf hfr hdep K hK
     obtain ⟨tm, df⟩ := a
     have hdf : df = [] := hdf
     subst hdf
     have ho := Option.some.inj ho
     subst ho
     have hsz : tm.size = 34 := hsz
     have t1 : tm.getD 1 undef = .slice (some ad0) 3 d := hfr 1 (by decide)
     have t13 : tm.getD 13 undef = .bool true := hdep ⟨8, .guard⟩ (by simp) (by rfl) (by decide) W (Below.refl _ W)
     have u13 : tm[13]'(by omega) = .bool true := getq t13 (by omega)
     clear hdep hfr
     go_simp
     exact hK _ W (Below.refl _ W) (fun W9 hb => rfl)
    case s11 =>
     intro o ho a W hS hsz hdf hfr hdep K hK
     obtain ⟨tm, df⟩ := a
     have hdf : df = [] := hdf
     subst hdf
     have ho := Option.some.inj ho
     subst ho
     have hsz : tm.size = 34 := hsz
     have t15 : tm.getD 15 undef = .slice (some ad0) 3 d := hdep ⟨10, .data⟩ (by simp) (by rfl) (by decide) W (Below.refl _ W)
     have t13 : tm.getD 13 undef = .bool true := hdep ⟨8, .guard⟩ (by simp) (by rfl) (by decide) W (Below.refl _ W)
     have u13 : tm[13]'(by omega) = .bool true := getq t13 (by omega)
     clear hdep hfr
     go_simp
     exact hK _ W (Below.refl _ W) (fun W9 hb => rfl)
    case s12 =>
     intro o ho a W hS hsz hdf hfr hdep K hK
     obtain ⟨tm, df⟩ := a
     have hdf : df = [] := hdf
     subst hdf
     have ho := Option.some.inj ho
     subst ho
     have hsz : tm.size = 34 := hsz
     have t16 : tm.getD 16 undef = .pointer (some (ad0.add 1)) := hdep ⟨11, .data⟩ (by simp) (by rfl) (by decide) W (Below.refl _ W)
     have t13 : tm.getD 13 undef = .bool true := hdep ⟨8, .guard⟩ (by simp) (by rfl) (by decide) W (Below.refl _ W)
     have u13 : tm[13]'(by omega) = .bool true := getq t13 (by omega)
     have cz : W.cell? { block := ad0.block, off := ad0.off + 1 } = some (.int .i64 (x1 : Int)) := by have h9 := HC1.out W hS; simpa [Addr.add] using h9
     clear hdep hfr
     go_simp
     exact hK _ W (Below.refl _ W) (fun W9 hb => rfl)
    case s13 =>
     intro o ho a W hS hsz hdf hfr hdep K hK
     obtain ⟨tm, df⟩ := a
     have hdf : df = [] := hdf
     subst hdf
     have ho := Option.some.inj ho
     subst ho
     have hsz : tm.size = 34 := hsz
     have t1 : tm.getD 1 undef = .slice (some ad0) 3 d := hfr 1 (by decide)
     have t13 : tm.getD 13 undef = .bool true := hdep ⟨8, .guard⟩ (by simp) (by rfl) (by decide) W (Below.refl _ W)
     have u13 : tm[13]'(by omega) = .bool true := getq t13 (by omega)
     clear hdep hfr
     go_simp
     exact hK _ W (Below.refl _ W) (fun W9 hb => rfl)
    case s14 =>
     intro o ho a W hS hsz hdf hfr hdep K hK
     obtain ⟨tm, df⟩ := a
     have hdf : df = [] := hdf
     subst hdf
     have ho := Option.some.inj ho
     subst ho
     have hsz : tm.size = 34 := hsz
     have t18 : tm.getD 18 undef = .slice (some ad0) 3 d := hdep ⟨13, .data⟩ (by simp) (by rfl) (by decide) W (Below.refl _ W)
     have t13 : tm.getD 13 undef = .bool true := hdep ⟨8, .guard⟩ (by simp) (by rfl) (by decide) W (Below.refl _ W)
     have u13 : tm[13]'(by omega) = .bool true := getq t13 (by omega)
     clear hdep hfr
     go_simp
     exact hK _ W (Below.refl _ W) (fun W9 hb => rfl)
    case s15 =>
     intro o ho a W hS hsz hdf hfr hdep K hK
     obtain ⟨tm, df⟩ := a
     have hdf : df = [] := hdf
     subst hdf
     have ho := Option.some.inj ho
     subst ho
     have hsz : tm.size = 34 := hsz
     have t19 : tm.getD 19 undef = .pointer (some (ad0.add 2)) := hdep ⟨14, .data⟩ (by simp) (by rfl) (by decide) W (Below.refl _ W)
     have t13 : tm.getD 13 undef = .bool true := hdep ⟨8, .guard⟩ (by simp) (by rfl) (by decide) W (Below.refl _ W)
     have u13 : tm[13]'(by omega) = .bool true := getq t13 (by omega)
     have cz : W.cell? { block := ad0.block, off := ad0.off + 2 } = some (.int .i64 (x2 : Int)) := by have h9 := HC2.out W hS; simpa [Addr.add] using h9
     clear hdep hfr
     go_simp
     exact hK _ W (Below.refl _ W) (fun W9 hb => rfl)
    case s16 =>
     intro o ho a W hS hsz hdf hfr hdep K hK
     obtain ⟨tm, df⟩ := a
     have hdf : df = [] := hdf
     subst hdf
     have ho := Option.some.inj ho
     subst ho
     have hsz : tm.size = 34 := hsz
     have t14 : tm.getD 14 undef = .slice A n c := hdep ⟨9, .data⟩ (by simp) (by rfl) (by decide) W (Below.refl _ W)
     have t17 : tm.getD 17 undef = .int .i64 (x1 : Int) := hdep ⟨12, .data⟩ (by simp) (by rfl) (by decide) W (Below.refl _ W)
     have t20 : tm.getD 20 undef = .int .i64 (x2 : Int) := hdep ⟨15, .data⟩ (by simp) (by rfl) (by decide) W (Below.refl _ W)
     have t13 : tm.getD 13 undef = .bool true := hdep ⟨8, .guard⟩ (by simp) (by rfl) (by decide) W (Below.refl _ W)
     have u13 : tm[13]'(by omega) = .bool true := getq t13 (by omega)
     clear hdep hfr
     go_simp
     refine (HL1.out W hS).mono ?_
     rintro e W9 ⟨rfl, rfl⟩
     exact hK _ _ (Below.refl _ _) (fun W8 hc => rfl)
    case s17 =>
     intro o ho a W hS hsz hdf hfr hdep K hK
     obtain ⟨tm, df⟩ := a
     have hdf : df = [] := hdf
     subst hdf
     have ho := Option.some.inj ho
     subst ho
     have hsz : tm.size = 34 := hsz
     have t13 : tm.getD 13 undef = .bool true := hdep ⟨8, .data⟩ (by simp) (by rfl) (by decide) W (Below.refl _ W)
     have t21 : tm.getD 21 undef = .bool false := hdep ⟨16, .data⟩ (by simp) (by rfl) (by decide) W (Below.refl _ W)
     clear hdep hfr
     go_simp
     exact hK _ W (Below.refl _ W) (fun W9 hb => rfl)
    case s18 =>
     intro o ho a W hS hsz hdf hfr hdep K hK
     obtain ⟨tm, df⟩ := a
     have hdf : df = [] := hdf
     subst hdf
     have ho := Option.some.inj ho
     subst ho
     have hsz : tm.size = 34 := hsz
     have t22 : tm.getD 22 undef = .bool false := hdep ⟨17, .data⟩ (by simp) (by rfl) (by decide) W (Below.refl _ W)
     clear hdep hfr
     go_simp
     exact hK _ W (Below.refl _ W) (fun W9 hb => rfl)
    case s19 =>
     intro o ho a W hS hsz hdf hfr hdep K hK
     obtain ⟨tm, df⟩ := a
     have hdf : df = [] := hdf
     subst hdf
     have ho := Option.some.inj ho
     subst ho
     have hsz : tm.size = 34 := hsz
     have t23 : tm.getD 23 undef = .bool false := hdep ⟨18, .guard⟩ (by simp) (by rfl) (by decide) W (Below.refl _ W)
     have u23 : tm[23]'(by omega) = .bool false := getq t23 (by omega)
     clear hdep hfr
     go_simp
     exact hK _ W (Below.refl _ W) (fun W9 hb => rfl)
    case s20 =>
     intro o ho a W hS hsz hdf hfr hdep K hK
     obtain ⟨tm, df⟩ := a
     have hdf : df = [] := hdf
     subst hdf
     have ho := Option.some.inj ho
     subst ho
     have hsz : tm.size = 34 := hsz
     have t23 : tm.getD 23 undef = .bool false := hdep ⟨18, .guard⟩ (by simp) (by rfl) (by decide) W (Below.refl _ W)
     have u23 : tm[23]'(by omega) = .bool false := getq t23 (by omega)
     clear hdep hfr
     go_simp
     exact hK _ W (Below.refl _ W) (fun W9 hb => rfl)
    case s21 =>
     intro o ho a W hS hsz hdf hfr hdep K hK
     obtain ⟨tm, df⟩ := a
     have hdf : df = [] := hdf
     subst hdf
     have ho := Option.some.inj ho
     subst ho
     have hsz : tm.size = 34 := hsz
     have t23 : tm.getD 23 undef = .bool false := hdep ⟨18, .guard⟩ (by simp) (by rfl) (by decide) W (Below.refl _ W)
     have u23 : tm[23]'(by omega) = .bool false := getq t23 (by omega)
     clear hdep hfr
     go_simp
     exact hK _ W (Below.refl _ W) (fun W9 hb => rfl)
    case s22 =>
     intro o ho a W hS hsz hdf hfr hdep K hK
     obtain ⟨tm, df⟩ := a
     have hdf : df = [] := hdf
     subst hdf
     have ho := Option.some.inj ho
     subst ho
     have hsz : tm.size = 34 := hsz
     have t23 : tm.getD 23 undef = .bool false := hdep ⟨18, .guard⟩ (by simp) (by rfl) (by decide) W (Below.refl _ W)
     have u23 : tm[23]'(by omega) = .bool false := getq t23 (by omega)
     clear hdep hfr
     go_simp
     exact hK _ W (Below.refl _ W) (fun W9 hb => rfl)
    case s23 =>
     intro o ho a W hS hsz hdf hfr hdep K hK
     obtain ⟨tm, df⟩ := a
     have hdf : df = [] := hdf
     subst hdf
     have ho := Option.some.inj ho
     subst ho
     have hsz : tm.size = 34 := hsz
     have t23 : tm.getD 23 undef = .bool false := hdep ⟨18, .guard⟩ (by simp) (by rfl) (by decide) W (Below.refl _ W)
     have u23 : tm[23]'(by omega) = .bool false := getq t23 (by omega)
     clear hdep hfr
     go_simp
     exact hK _ W (Below.refl _ W) (fun W9 hb => rfl)
    case s24 =>
     intro o ho a W hS hsz hdf hfr hdep K hK
     obtain ⟨tm, df⟩ := a
     have hdf : df = [] := hdf
     subst hdf
     have ho := Option.some.inj ho
     subst ho
     have hsz : tm.size = 34 := hsz
     have t23 : tm.getD 23 undef = .bool false := hdep ⟨18, .guard⟩ (by simp) (by rfl) (by decide) W (Below.refl _ W)
     have u23 : tm[23]'(by omega) = .bool false := getq t23 (by omega)
     clear hdep hfr
     go_simp
     exact hK _ W (Below.refl _ W) (fun W9 hb => rfl)
    case s25 =>
     intro o ho a W hS hsz hdf hfr hdep K hK
     obtain ⟨tm, df⟩ := a
     have hdf : df = [] := hdf
     subst hdf
     have ho := Option.some.inj ho
     subst ho
     have hsz : tm.size = 34 := hsz
     have t23 : tm.getD 23 undef = .bool false := hdep ⟨18, .guard⟩ (by simp) (by rfl) (by decide) W (Below.refl _ W)
     have u23 : tm[23]'(by omega) = .bool false := getq t23 (by omega)
     clear hdep hfr
     go_simp
     exact hK _ W (Below.refl _ W) (fun W9 hb => rfl)
    case s26 =>
     intro o ho a W hS hsz hdf hfr hdep K hK
     obtain ⟨tm, df⟩ := a
     have hdf : df = [] := hdf
     subst hdf
     have ho := Option.some.inj ho
     subst ho
     have hsz : tm.size = 34 := hsz
     have t23 : tm.getD 23 undef = .bool false := hdep ⟨18, .guard⟩ (by simp) (by rfl) (by decide) W (Below.refl _ W)
     have u23 : tm[23]'(by omega) = .bool false := getq t23 (by omega)
     clear hdep hfr
     go_simp
     exact hK _ W (Below.refl _ W) (fun W9 hb => rfl)
    case s27 =>
     intro o ho a W hS hsz hdf hfr hdep K hK
     obtain ⟨tm, df⟩ := a
     have hdf : df = [] := hdf
     subst hdf
     have ho := Option.some.inj ho
     subst ho
     have hsz : tm.size = 34 := hsz
     have t23 : tm.getD 23 undef = .bool false := hdep ⟨18, .guard⟩ (by simp) (by rfl) (by decide) W (Below.refl _ W)
     have u23 : tm[23]'(by omega) = .bool false := getq t23 (by omega)
     clear hdep hfr
     go_simp
     exact hK _ W (Below.refl _ W) (fun W9 hb => rfl)
    case s28 =>
     intro o ho a W hS hsz hdf hfr hdep K hK
     obtain ⟨tm, df⟩ := a
     have hdf : df = [] := hdf
     subst hdf
     have ho := Option.some.inj ho
     subst ho
     have hsz : tm.size = 34 := hsz
     have t23 : tm.getD 23 undef = .bool false := hdep ⟨18, .data⟩ (by simp) (by rfl) (by decide) W (Below.refl _ W)
     have t32 : tm.getD 32 undef = undef := hdep ⟨27, .data⟩ (by simp) (by rfl) (by decide) W (Below.refl _ W)
     clear hdep hfr
     go_simp
     exact hK _ W (Below.refl _ W) (fun W9 hb => rfl)
    case s29 =>
     intro o ho a W hS hsz hdf hfr hdep K hK
     obtain ⟨tm, df⟩ := a
     have hdf : df = [] := hdf
     subst hdf
     have ho := Option.some.inj ho
     subst ho
     have hsz : tm.size = 34 := hsz
     have t33 : tm.getD 33 undef = .bool false := hdep ⟨28, .data⟩ (by simp) (by rfl) (by decide) W (Below.refl _ W)
     clear hdep hfr
     go_simp
     exact hK _ W (Below.refl _ W) (fun W9 hb => rfl)
   case fin =>
    intro W hS
    simp only [fillD]
    go_simp
    go_wp2
    go_ret
    exact ⟨rfl, hS⟩
  case true =>
   go_enter Tryz.func102, Tryz.ntmps102
   go_wp2
   refine wp_region_constD [.slice A n c, .slice (some ad0) 3 d, .pointer (some ad0), .int .i64 (x0 : Int), .slice (some ad0) 3 d, .pointer (some (ad0.add 1)), .int .i64 (x1 : Int), .bool true, .bool true, .slice A n c, .slice (some ad0) 3 d, .pointer (some (ad0.add 1)), .int .i64 (x1 : Int), .slice (some ad0) 3 d, .pointer (some (ad0.add 2)), .int .i64 (x2 : Int), .bool true, .bool true, .bool true, .slice A n c, .slice (some ad0) 3 d, .pointer (some ad0), .int .i64 (x0 : Int), .slice (some ad0) 3 d, .pointer (some (ad0.add 2)), .int .i64 (x2 : Int), .bool b2, .bool (!b2), .bool (!b2), .bool (!b2)] [5, 6, 7, 8, 9, 10, 11, 12, 13, 14, 15, 16, 17, 18, 19, 20, 21, 22, 23, 24, 25, 26, 27, 28, 29, 30, 31, 32, 33, 4] (fun W => Below w.heap.size w W) (fun W W' => Below W.heap.size W W') 30 34 rfl rfl rfl rfl (by decide) (by decide) (by kernel_rfl) (by kernel_rfl) (by kernel_rfl) (fun W => Below.refl _ W) (fun W1 W2 W3 h1 h2 => h1.trans (h2.mono h1.size)) (fun W W' h h2 => h.trans (h2.mono h.size)) (Below.refl _ w).drew ?hop ?fin
   case hop =>
    refine (lt_more (lt_more (lt_more (lt_more (lt_more (lt_more (lt_more (lt_more (lt_more (lt_more (lt_more (lt_more (lt_more (lt_more (lt_more (lt_more (lt_more (lt_more (lt_more (lt_more (lt_more (lt_more (lt_more (lt_more (lt_more (lt_more (lt_more (lt_more (lt_more (lt_more (lt_none _) ?s0) ?s1) ?s2) ?s3) ?s4) ?s5) ?s6) ?s7) ?s8) ?s9) ?s10) ?s11) ?s12) ?s13) ?s14) ?s15) ?s16) ?s17) ?s18) ?s19) ?s20) ?s21) ?s22) ?s23) ?s24) ?s25) ?s26) ?s27) ?s28) ?s29)
    case s0 =>
     intro o ho a W hS hsz hdf hfr hdep K hK
     obtain ⟨tm, df⟩ := a
     have hdf : df = [] := hdf
     subst hdf
     have ho := Option.some.inj ho
     subst ho
     have hsz : tm.size = 34 := hsz
     have t0 : tm.getD 0 undef = .slice A n c := hfr 0 (by decide)
     clear hdep hfr
     go_simp
     exact hK _ W (Below.refl _ W) (fun W9 hb => rfl)
    case s1 =>
     intro o ho a W hS hsz hdf hfr hdep K hK
     obtain ⟨tm, df⟩ := a
     have hdf : df = [] := hdf
     subst hdf
     have ho := Option.some.inj ho
     subst ho
     have hsz : tm.size = 34 := hsz
     have t1 : tm.getD 1 undef = .slice (some ad0) 3 d := hfr 1 (by decide)
     clear hdep hfr
     go_simp
     exact hK _ W (Below.refl _ W) (fun W9 hb => rfl)
    case s2 =>
     intro o ho a W hS hsz hdf hfr hdep K hK
     obtain ⟨tm, df⟩ := a
     have hdf : df = [] := hdf
     subst hdf
     have ho := Option.some.inj ho
     subst ho
     have hsz : tm.size = 34 := hsz
     have t6 : tm.getD 6 undef = .slice (some ad0) 3 d := hdep ⟨1, .data⟩ (by simp) (by rfl) (by decide) W (Below.refl _ W)
     clear hdep hfr
     go_simp
     exact hK _ W (Below.refl _ W) (fun W9 hb => rfl)
    case s3 =>
     intro o ho a W hS hsz hdf hfr hdep K hK
     obtain ⟨tm, df⟩ := a
     have hdf : df = [] := hdf
     subst hdf
     have ho := Option.some.inj ho
     subst ho
     have hsz : tm.size = 34 := hsz
     have t7 : tm.getD 7 undef = .pointer (some ad0) := hdep ⟨2, .data⟩ (by simp) (by rfl) (by decide) W (Below.refl _ W)
     have cz := HC0.out W hS
     rw [add_nil] at cz
     clear hdep hfr
     go_simp
     exact hK _ W (Below.refl _ W) (fun W9 hb => rfl)
    case s4 =>
     intro o ho a W hS hsz hdf hfr hdep K hK
     obtain ⟨tm, df⟩ := a
     have hdf : df = [] := hdf
     subst hdf
     have ho := Option.some.inj ho
     subst ho
     have hsz : tm.size = 34 := hsz
     have t1 : tm.getD 1 undef = .slice (some ad0) 3 d := hfr 1 (by decide)
     clear hdep hfr
     go_simp
     exact hK _ W (Below.refl _ W) (fun W9 hb => rfl)
    case s5 =>
     intro o ho a W hS hsz hdf hfr hdep K hK
     obtain ⟨tm, df⟩ := a
     have hdf : df = [] := hdf
     subst hdf
     have ho := Option.some.inj ho
     subst ho
     have hsz : tm.size = 34 := hsz
     have t9 : tm.getD 9 undef = .slice (some ad0) 3 d := hdep ⟨4, .data⟩ (by simp) (by rfl) (by decide) W (Below.refl _ W)
     clear hdep hfr
     go_simp
     exact hK _ W (Below.refl _ W) (fun W9 hb => rfl)
    case s6 =>
     intro o ho a W hS hsz hdf hfr hdep K hK
     obtain ⟨tm, df⟩ := a
     have hdf : df = [] := hdf
     subst hdf
     have ho := Option.some.inj ho
     subst ho
     have hsz : tm.size = 34 := hsz
     have t10 : tm.getD 10 undef = .pointer (some (ad0.add 1)) := hdep ⟨5, .data⟩ (by simp) (by rfl) (by decide) W (Below.refl _ W)
     have cz : W.cell? { block := ad0.block, off := ad0.off + 1 } = some (.int .i64 (x1 : Int)) := by have h9 := HC1.out W hS; simpa [Addr.add] using h9
     clear hdep hfr
     go_simp
     exact hK _ W (Below.refl _ W) (fun W9 hb => rfl)
    case s7 =>
     intro o ho a W hS hsz hdf hfr hdep K hK
     obtain ⟨tm, df⟩ := a
     have hdf : df = [] := hdf
     subst hdf
     have ho := Option.some.inj ho
     subst ho
     have hsz : tm.size = 34 := hsz
     have t5 : tm.getD 5 undef = .slice A n c := hdep ⟨0, .data⟩ (by simp) (by rfl) (by decide) W (Below.refl _ W)
     have t8 : tm.getD 8 undef = .int .i64 (x0 : Int) := hdep ⟨3, .data⟩ (by simp) (by rfl) (by decide) W (Below.refl _ W)
     have t11 : tm.getD 11 undef = .int .i64 (x1 : Int) := hdep ⟨6, .data⟩ (by simp) (by rfl) (by decide) W (Below.refl _ W)
     clear hdep hfr
     go_simp
     refine (HL0.out W hS).mono ?_
     rintro e W9 ⟨rfl, rfl⟩
     exact hK _ _ (Below.refl _ _) (fun W8 hc => rfl)
    case s8 =>
     intro o ho a W hS hsz hdf hfr hdep K hK
     obtain ⟨tm, df⟩ := a
     have hdf : df = [] := hdf
     subst hdf
     have ho := Option.some.inj ho
     subst ho
     have hsz : tm.size = 34 := hsz
     have t12 : tm.getD 12 undef = .bool true := hdep ⟨7, .data⟩ (by simp) (by rfl) (by decide) W (Below.refl _ W)
     clear hdep hfr
     go_simp
     exact hK _ W (Below.refl _ W) (fun W9 hb => rfl)
    case s9 =>
     intro o ho a W hS hsz hdf hfr hdep K hK
     obtain ⟨tm, df⟩ := a
     have hdf : df = [] := hdf
     subst hdf
     have ho := Option.some.inj ho
     subst ho
     have hsz : tm.size = 34 := hsz
     have t0 : tm.getD 0 undef = .slice A n c := hfr 0 (by decide)
     have t13 : tm.getD 13 undef = .bool true := hdep ⟨8, .guard⟩ (by simp) (by rfl) (by decide) W (Below.refl _ W)
     have u13 : tm[13]'(by omega) = .bool true := getq t13 (by omega)
     clear hdep hfr
     go_simp
     exact hK _ W (Below.refl _ W) (fun W9 hb => rfl)
    case s10 =>
     intro o ho a W hS hsz hdf hfr hdep K hK
     obtain ⟨tm, df⟩ := a
     have hdf : df = [] := hdf
     subst hdf
     have ho := Option.some.inj ho
     subst ho
     have hsz : tm.size = 34 := hsz
     have t1 : tm.getD 1 undef = .slice (some ad0) 3 d := hfr 1 (by decide)
     have t13 : tm.getD 13 undef = .bool true := hdep ⟨8, .guard⟩ (by simp) (by rfl) (by decide) W (Below.refl _ W)
     have u13 : tm[13]'(by omega) = .bool true := getq t13 (by omega)
     clear hdep hfr
     go_simp
     exact hK _ W (Below.refl _ W) (fun W9 hb => rfl)
    case s11 =>
     intro o ho a W hS hsz hdf hfr hdep K hK
     obtain ⟨tm, df⟩ := a
     have hdf : df = [] := hdf
     subst hdf
     have ho := Option.some.inj ho
     subst ho
     have hsz : tm.size = 34 := hsz
     have t15 : tm.getD 15 undef = .slice (some ad0) 3 d := hdep ⟨10, .data⟩ (by simp) (by rfl) (by decide) W (Below.refl _ W)
     have t13 : tm.getD 13 undef = .bool true := hdep ⟨8, .guard⟩ (by simp) (by rfl) (by decide) W (Below.refl _ W)
     have u13 : tm[13]'(by omega) = .bool true := getq t13 (by omega)
     clear hdep hfr
     go_simp
     exact hK _ W (Below.refl _ W) (fun W9 hb => rfl)
    case s12 =>
     intro o ho a W hS hsz hdf hfr hdep K hK
     obtain ⟨tm, df⟩ := a
     have hdf : df = [] := hdf
     subst hdf
     have ho := Option.some.inj ho
     subst ho
     have hsz : tm.size = 34 := hsz
     have t16 : tm.getD 16 undef = .pointer (some (ad0.add 1)) := hdep ⟨11, .data⟩ (by simp) (by rfl) (by decide) W (Below.refl _ W)
     have t13 : tm.getD 13 undef = .bool true := hdep ⟨8, .guard⟩ (by simp) (by rfl) (by decide) W (Below.refl _ W)
     have u13 : tm[13]'(by omega) = .bool true := getq t13 (by omega)
     have cz : W.cell? { block := ad0.block, off := ad0.off + 1 } = some (.int .i64 (x1 : Int)) := by have h9 := HC1.out W hS; simpa [Addr.add] using h9
     clear hdep hfr
     go_simp
     exact hK _ W (Below.refl _ W) (fun W9 hb => rfl)
    case s13 =>
     intro o ho a W hS hsz hdf hfr hdep K hK
     obtain ⟨tm, df⟩ := a
     have hdf : df = [] := hdf
     subst hdf
     have ho := Option.some.inj ho
     subst ho
     have hsz : tm.size = 34 := hsz
     have t1 : tm.getD 1 undef = .slice (some ad0) 3 d := hfr 1 (by decide)
     have t13 : tm.getD 13 undef = .bool true := hdep ⟨8, .guard⟩ (by simp) (by rfl) (by decide) W (Below.refl _ W)
     have u13 : tm[13]'(by omega) = .bool true := getq t13 (by omega)
     clear hdep hfr
     go_simp
     exact hK _ W (Below.refl _ W) (fun W9 hb => rfl)
    case s14 =>
     intro o ho a W hS hsz hdf hfr hdep K hK
     obtain ⟨tm, df⟩ := a
     have hdf : df = [] := hdf
     subst hdf
     have ho := Option.some.inj ho
     subst ho
     have hsz : tm.size = 34 := hsz
     have t18 : tm.getD 18 undef = .slice (some ad0) 3 d := hdep ⟨13, .data⟩ (by simp) (by rfl) (by decide) W (Below.refl _ W)
     have t13 : tm.getD 13 undef = .bool true := hdep ⟨8, .guard⟩ (by simp) (by rfl) (by decide) W (Below.refl _ W)
     have u13 : tm[13]'(by omega) = .bool true := getq t13 (by omega)
     clear hdep hfr
     go_simp
     exact hK _ W (Below.refl _ W) (fun W9 hb => rfl)
    case s15 =>
     intro o ho a W hS hsz hdf hfr hdep K hK
     obtain ⟨tm, df⟩ := a
     have hdf : df = [] := hdf
     subst hdf
     have ho := Option.some.inj ho
     subst ho
     have hsz : tm.size = 34 := hsz
     have t19 : tm.getD 19 undef = .pointer (some (ad0.add 2)) := hdep ⟨14, .data⟩ (by simp) (by rfl) (by decide) W (Below.refl _ W)
     have t13 : tm.getD 13 undef = .bool true := hdep ⟨8, .guard⟩ (by simp) (by rfl) (by decide) W (Below.refl _ W)
     have u13 : tm[13]'(by omega) = .bool true := getq t13 (by omega)
     have cz : W.cell? { block := ad0.block, off := ad0.off + 2 } = some (.int .i64 (x2 : Int)) := by have h9 := HC2.out W hS; simpa [Addr.add] using h9
     clear hdep hfr
     go_simp
     exact hK _ W (Below.refl _ W) (fun W9 hb => rfl)
    case s16 =>
     intro o ho a W hS hsz hdf hfr hdep K hK
     obtain ⟨tm, df⟩ := a
     have hdf : df = [] := hdf
     subst hdf
     have ho := Option.some.inj ho
     subst ho
     have hsz : tm.size = 34 := hsz
     have t14 : tm.getD 14 undef = .slice A n c := hdep ⟨9, .data⟩ (by simp) (by rfl) (by decide) W (Below.refl _ W)
     have t17 : tm.getD 17 undef = .int .i64 (x1 : Int) := hdep ⟨12, .data⟩ (by simp) (by rfl) (by decide) W (Below.refl _ W)
     have t20 : tm.getD 20 undef = .int .i64 (x2 : Int) := hdep ⟨15, .data⟩ (by simp) (by rfl) (by decide) W (Below.refl _ W)
     have t13 : tm.getD 13 undef = .bool true := hdep ⟨8, .guard⟩ (by simp) (by rfl) (by decide) W (Below.refl _ W)
     have u13 : tm[13]'(by omega) = .bool true := getq t13 (by omega)
     clear hdep hfr
     go_simp
     refine (HL1.out W hS).mono ?_
     rintro e W9 ⟨rfl, rfl⟩
     exact hK _ _ (Below.refl _ _) (fun W8 hc => rfl)
    case s17 =>
     intro o ho a W hS hsz hdf hfr hdep K hK
     obtain ⟨tm, df⟩ := a
     have hdf : df = [] := hdf
     subst hdf
     have ho := Option.some.inj ho
     subst ho
     have hsz : tm.size = 34 := hsz
     have t13 : tm.getD 13 undef = .bool true := hdep ⟨8, .data⟩ (by simp) (by rfl) (by decide) W (Below.refl _ W)
     have t21 : tm.getD 21 undef = .bool true := hdep ⟨16, .data⟩ (by simp) (by rfl) (by decide) W (Below.refl _ W)
     clear hdep hfr
     go_simp
     exact hK _ W (Below.refl _ W) (fun W9 hb => rfl)
    case s18 =>
     intro o ho a W hS hsz hdf hfr hdep K hK
     obtain ⟨tm, df⟩ := a
     have hdf : df = [] := hdf
     subst hdf
     have ho := Option.some.inj ho
     subst ho
     have hsz : tm.size = 34 := hsz
     have t22 : tm.getD 22 undef = .bool true := hdep ⟨17, .data⟩ (by simp) (by rfl) (by decide) W (Below.refl _ W)
     clear hdep hfr
     go_simp
     exact hK _ W (Below.refl _ W) (fun W9 hb => rfl)
    case s19 =>
     intro o ho a W hS hsz hdf hfr hdep K hK
     obtain ⟨tm, df⟩ := a
     have hdf : df = [] := hdf
     subst hdf
     have ho := Option.some.inj ho
     subst ho
     have hsz : tm.size = 34 := hsz
     have t0 : tm.getD 0 undef = .slice A n c := hfr 0 (by decide)
     have t23 : tm.getD 23 undef = .bool true := hdep ⟨18, .guard⟩ (by simp) (by rfl) (by decide) W (Below.refl _ W)
     have u23 : tm[23]'(by omega) = .bool true := getq t23 (by omega)
     clear hdep hfr
     go_simp
     exact hK _ W (Below.refl _ W) (fun W9 hb => rfl)
    case s20 =>
     intro o ho a W hS hsz hdf hfr hdep K hK
     obtain ⟨tm, df⟩ := a
     have hdf : df = [] := hdf
     subst hdf
     have ho := Option.some.inj ho
     subst ho
     have hsz : tm.size = 34 := hsz
     have t1 : tm.getD 1 undef = .slice (some ad0) 3 d := hfr 1 (by decide)
     have t23 : tm.getD 23 undef = .bool true := hdep ⟨18, .guard⟩ (by simp) (by rfl) (by decide) W (Below.refl _ W)
     have u23 : tm[23]'(by omega) = .bool true := getq t23 (by omega)
     clear hdep hfr
     go_simp
     exact hK _ W (Below.refl _ W) (fun W9 hb => rfl)
    case s21 =>
     intro o ho a W hS hsz hdf hfr hdep K hK
     obtain ⟨tm, df⟩ := a
     have hdf : df = [] := hdf
     subst hdf
     have ho := Option.some.inj ho
     subst ho
     have hsz : tm.size = 34 := hsz
     have t25 : tm.getD 25 undef = .slice (some ad0) 3 d := hdep ⟨20, .data⟩ (by simp) (by rfl) (by decide) W (Below.refl _ W)
     have t23 : tm.getD 23 undef = .bool true := hdep ⟨18, .guard⟩ (by simp) (by rfl) (by decide) W (Below.refl _ W)
     have u23 : tm[23]'(by omega) = .bool true := getq t23 (by omega)
     clear hdep hfr
     go_simp
     exact hK _ W (Below.refl _ W) (fun W9 hb => rfl)
    case s22 =>
     intro o ho a W hS hsz hdf hfr hdep K hK
     obtain ⟨tm, df⟩ := a
     have hdf : df = [] := hdf
     subst hdf
     have ho := Option.some.inj ho
     subst ho
     have hsz : tm.size = 34 := hsz
     have t26 : tm.getD 26 undef = .pointer (some ad0) := hdep ⟨21, .data⟩ (by simp) (by rfl) (by decide) W (Below.refl _ W)
     have t23 : tm.getD 23 undef = .bool true := hdep ⟨18, .guard⟩ (by simp) (by rfl) (by decide) W (Below.refl _ W)
     have u23 : tm[23]'(by omega) = .bool true := getq t23 (by omega)
     have cz := HC0.out W hS
     rw [add_nil] at cz
     clear hdep hfr
     go_simp
     exact hK _ W (Below.refl _ W) (fun W9 hb => rfl)
    case s23 =>
     intro o ho a W hS hsz hdf hfr hdep K hK
     obtain ⟨tm, df⟩ := a
     have hdf : df = [] := hdf
     subst hdf
     have ho := Option.some.inj ho
     subst ho
     have hsz : tm.size = 34 := hsz
     have t1 : tm.getD 1 undef = .slice (some ad0) 3 d := hfr 1 (by decide)
     have t23 : tm.getD 23 undef = .bool true := hdep ⟨18, .guard⟩ (by simp) (by rfl) (by decide) W (Below.refl _ W)
     have u23 : tm[23]'(by omega) = .bool true := getq t23 (by omega)
     clear hdep hfr
     go_simp
     exact hK _ W (Below.refl _ W) (fun W9 hb => rfl)
    case s24 =>
     intro o ho a W hS hsz hdf hfr hdep K hK
     obtain ⟨tm, df⟩ := a
     have hdf : df = [] := hdf
     subst hdf
     have ho := Option.some.inj ho
     subst ho
     have hsz : tm.size = 34 := hsz
     have t28 : tm.getD 28 undef = .slice (some ad0) 3 d := hdep ⟨23, .data⟩ (by simp) (by rfl) (by decide) W (Below.refl _ W)
     have t23 : tm.getD 23 undef = .bool true := hdep ⟨18, .guard⟩ (by simp) (by rfl) (by decide) W (Below.refl _ W)
     have u23 : tm[23]'(by omega) = .bool true := getq t23 (by omega)
     clear hdep hfr
     go_simp
     exact hK _ W (Below.refl _ W) (fun W9 hb => rfl)
    case s25 =>
     intro o ho a W hS hsz hdf hfr hdep K hK
     obtain ⟨tm, df⟩ := a
     have hdf : df = [] := hdf
     subst hdf
     have ho := Option.some.inj ho
     subst ho
     have hsz : tm.size = 34 := hsz
     have t29 : tm.getD 29 undef = .pointer (some (ad0.add 2)) := hdep ⟨24, .data⟩ (by simp) (by rfl) (by decide) W (Below.refl _ W)
     have t23 : tm.getD 23 undef = .bool true := hdep ⟨18, .guard⟩ (by simp) (by rfl) (by decide) W (Below.refl _ W)
     have u23 : tm[23]'(by omega) = .bool true := getq t23 (by omega)
     have cz : W.cell? { block := ad0.block, off := ad0.off + 2 } = some (.int .i64 (x2 : Int)) := by have h9 := HC2.out W hS; simpa [Addr.add] using h9
     clear hdep hfr
     go_simp
     exact hK _ W (Below.refl _ W) (fun W9 hb => rfl)
    case s26 =>
     intro o ho a W hS hsz hdf hfr hdep K hK
     obtain ⟨tm, df⟩ := a
     have hdf : df = [] := hdf
     subst hdf
     have ho := Option.some.inj ho
     subst ho
     have hsz : tm.size = 34 := hsz
     have t24 : tm.getD 24 undef = .slice A n c := hdep ⟨19, .data⟩ (by simp) (by rfl) (by decide) W (Below.refl _ W)
     have t27 : tm.getD 27 undef = .int .i64 (x0 : Int) := hdep ⟨22, .data⟩ (by simp) (by rfl) (by decide) W (Below.refl _ W)
     have t30 : tm.getD 30 undef = .int .i64 (x2 : Int) := hdep ⟨25, .data⟩ (by simp) (by rfl) (by decide) W (Below.refl _ W)
     have t23 : tm.getD 23 undef = .bool true := hdep ⟨18, .guard⟩ (by simp) (by rfl) (by decide) W (Below.refl _ W)
     have u23 : tm[23]'(by omega) = .bool true := getq t23 (by omega)
     clear hdep hfr
     go_simp
     refine (HL2.out W hS).mono ?_
     rintro e W9 ⟨rfl, rfl⟩
     exact hK _ _ (Below.refl _ _) (fun W8 hc => rfl)
    case s27 =>
     intro o ho a W hS hsz hdf hfr hdep K hK
     obtain ⟨tm, df⟩ := a
     have hdf : df = [] := hdf
     subst hdf
     have ho := Option.some.inj ho
     subst ho
     have hsz : tm.size = 34 := hsz
     have t31 : tm.getD 31 undef = .bool b2 := hdep ⟨26, .data⟩ (by simp) (by rfl) (by decide) W (Below.refl _ W)
     have t23 : tm.getD 23 undef = .bool true := hdep ⟨18, .guard⟩ (by simp) (by rfl) (by decide) W (Below.refl _ W)
     have u23 : tm[23]'(by omega) = .bool true := getq t23 (by omega)
     clear hdep hfr
     go_simp
     exact hK _ W (Below.refl _ W) (fun W9 hb => rfl)
    case s28 =>
     intro o ho a W hS hsz hdf hfr hdep K hK
     obtain ⟨tm, df⟩ := a
     have hdf : df = [] := hdf
     subst hdf
     have ho := Option.some.inj ho
     subst ho
     have hsz : tm.size = 34 := hsz
     have t23 : tm.getD 23 undef = .bool true := hdep ⟨18, .data⟩ (by simp) (by rfl) (by decide) W (Below.refl _ W)
     have t32 : tm.getD 32 undef = .bool (!b2) := hdep ⟨27, .data⟩ (by simp) (by rfl) (by decide) W (Below.refl _ W)
     clear hdep hfr
     go_simp
     exact hK _ W (Below.refl _ W) (fun W9 hb => rfl)
    case s29 =>
     intro o ho a W hS hsz hdf hfr hdep K hK
     obtain ⟨tm, df⟩ := a
     have hdf : df = [] := hdf
     subst hdf
     have ho := Option.some.inj ho
     subst ho
     have hsz : tm.size = 34 := hsz
     have t33 : tm.getD 33 undef = .bool (!b2) := hdep ⟨28, .data⟩ (by simp) (by rfl) (by decide) W (Below.refl _ W)
     clear hdep hfr
     go_simp
     exact hK _ W (Below.refl _ W) (fun W9 hb => rfl)
   case fin =>
    intro W hS
    simp only [fillD]
    go_simp
    go_wp2
    go_ret
    exact ⟨rfl, hS⟩
set_option maxHeartbeats 4000000 in
theorem show5_any (l x : List Nat) (A D : Option Addr) (n c d : Nat) (w : World) (hR : Reads w w.heap.size 1 A n (us l)) (hw : Words l) (hn : n ≤ 64) (hX : Reads w w.heap.size 1 D 3 (iv x)) (hx : ∀ k, k < 3 → x.getD k 0 < n) :
  Calls Tryz.prog 105 #[.slice A n c, .slice D 3 d] w fun e w' => e = .returned (.bool (shB 5 l x)) ∧ Below w.heap.size w w' := by
 obtain ⟨ad0, hD0, hb0, hc0⟩ := iv_at hX (k := 0) (by omega)
 have hx0 := hx 0 (by omega)
 obtain ⟨ad1, hD1, hb1, hc1⟩ := iv_at hX (k := 1) (by omega)
 have hx1 := hx 1 (by omega)
 obtain ⟨ad2, hD2, hb2, hc2⟩ := iv_at hX (k := 2) (by omega)
 have hx2 := hx 2 (by omega)
 subst hD0
 injection hD1 with hD1
 subst hD1
 injection hD2 with hD2
 subst hD2
 have hb := hb0
 have HC0 := Lib.hid (fun W (hW : Below w.heap.size w W) => (hW.cell (p := ad0.add 0) (by rw [block_of_add]; exact hb0)).trans hc0)
 have HC1 := Lib.hid (fun W (hW : Below w.heap.size w W) => (hW.cell (p := ad0.add 1) (by rw [block_of_add]; exact hb1)).trans hc1)
 have HC2 := Lib.hid (fun W (hW : Below w.heap.size w W) => (hW.cell (p := ad0.add 2) (by rw [block_of_add]; exact hb2)).trans hc2)
 have HL0 := Lib.hid (fun W (hW : Below w.heap.size w W) => leads_any l A n c (x.getD 0 0) (x.getD 1 0) W ((hR.below hW).more hW.size) hw hx0 (by omega))
 have HL1 := Lib.hid (fun W (hW : Below w.heap.size w W) => leads_any l A n c (x.getD 0 0) (x.getD 2 0) W ((hR.below hW).more hW.size) hw hx0 (by omega))
 have HL2 := Lib.hid (fun W (hW : Below w.heap.size w W) => leads_any l A n c (x.getD 1 0) (x.getD 2 0) W ((hR.below hW).more hW.size) hw hx1 (by omega))
 have e : shB 5 l x = (bit l (x.getD 0 0) (x.getD 1 0) && bit l (x.getD 0 0) (x.getD 2 0) && !bit l (x.getD 1 0) (x.getD 2 0)) := rfl
 rw [e]
 clear e hR hX hx hc0 hb0 hx0 hc1 hb1 hx1 hc2 hb2 hx2
 generalize bit l (x.getD 0 0) (x.getD 1 0) = b0 at *
 generalize bit l (x.getD 0 0) (x.getD 2 0) = b1 at *
 generalize bit l (x.getD 1 0) (x.getD 2 0) = b2 at *
 generalize x.getD 0 0 = x0 at *
 generalize x.getD 1 0 = x1 at *
 generalize x.getD 2 0 = x2 at *
 cases b0
 case false =>
  go_enter Tryz.func105, Tryz.ntmps105
  go_wp2
  refine wp_region_constD [.slice A n c, .slice (some ad0) 3 d, .pointer (some ad0), .int .i64 (x0 : Int), .slice (some ad0) 3 d, .pointer (some (ad0.add 1)), .int .i64 (x1 : Int), .bool false, .bool false, undef, undef, undef, undef, undef, undef, undef, undef, .bool false, .bool false, undef, undef, undef, undef, undef, undef, undef, undef, undef, .bool false, .bool false] [5, 6, 7, 8, 9, 10, 11, 12, 13, 14, 15, 16, 17, 18, 19, 20, 21, 22, 23, 24, 25, 26, 27, 28, 29, 30, 31, 32, 33, 4] (fun W => Below w.heap.size w W) (fun W W' => Below W.heap.size W W') 30 34 rfl rfl rfl rfl (by decide) (by decide) (by kernel_rfl) (by kernel_rfl) (by kernel_rfl) (fun W => Below.refl _ W) (fun W1 W2 W3 h1 h2 => h1.trans (h2.mono h1.size)) (fun W W' h h2 => h.trans (h2.mono h.size)) (Below.refl _ w).drew ?hop ?fin
  case hop =>
   refine (lt_more (lt_more (lt_more (lt_more (lt_more (lt_more (lt_more (lt_more (lt_more (lt_more (lt_more (lt_more (lt_more (lt_more (lt_more (lt_more (lt_more (lt_more (lt_more (lt_more (lt_more (lt_more (lt_more (lt_more (lt_more (lt_more (lt_more (lt_more (lt_more (lt_more (lt_none _) ?s0) ?s1) ?s2) ?s3) ?s4) ?s5) ?s6) ?s7) ?s8) ?s9) ?s10) ?s11) ?s12) ?s13) ?s14) ?s15) ?s16) ?s17) ?s18) ?s19) ?s20) ?s21) ?s22) ?s23) ?s24) ?s25) ?s26) ?s27) ?s28) ?s29)
   case s0 =>
    intro o ho a W hS hsz hdf hfr hdep K hK
    obtain ⟨tm, df⟩ := a
    have hdf : df = [] := hdf
    subst hdf
    have ho := Option.some.inj ho
    subst ho
    have hsz : tm.size = 34 := hsz
    have t0 : tm.getD 0 undef = .slice A n c := hfr 0 (by decide)
    clear hdep hfr
    go_simp
    exact hK _ W (Below.refl _ W) (fun W9 hb => rfl)
   case s1 =>
    intro o ho a W hS hsz hdf hfr hdep K hK
    obtain ⟨tm, df⟩ := a
    have hdf : df = [] := hdf
    subst hdf
    have ho := Option.some.inj ho
    subst ho
    have hsz : tm.size = 34 := hsz
    have t1 : tm.getD 1 undef = .slice (some ad0) 3 d := hfr 1 (by decide)
    clear hdep hfr
    go_simp
    exact hK _ W (Below.refl _ W) (fun W9 hb => rfl)
   case s2 =>
    intro o ho a W hS hsz hdf hfr hdep K hK
    obtain ⟨tm, df⟩ := a
    have hdf : df = [] := hdf
    subst hdf
    have ho := Option.some.inj ho
    subst ho
    have hsz : tm.size = 34 := hsz
    have t6 : tm.getD 6 undef = .slice (some ad0) 3 d := hdep ⟨1, .data⟩ (by simp) (by rfl) (by decide) W (Below.refl _ W)
    clear hdep hfr
    go_simp
    exact hK _ W (Below.refl _ W) (fun W9 hb => rfl)
   case s3 =>
    intro o ho a W hS hsz hdf hfr hdep K hK
    obtain ⟨tm, df⟩ := a
    have hdf : df = [] := hdf
    subst hdf
    have ho := Option.some.inj ho
    subst ho
    have hsz : tm.size = 34 := hsz
    have t7 : tm.getD 7 undef = .pointer (some ad0) := hdep ⟨2, .data⟩ (by simp) (by rfl) (by decide) W (Below.refl _ W)
    have cz := HC0.out W hS
    rw [add_nil] at cz
    clear hdep hfr
    go_simp
    exact hK _ W (Below.refl _ W) (fun W9 hb => rfl)
   case s4 =>
    intro o ho a W hS hsz hdf hfr hdep K hK
    obtain ⟨tm, df⟩ := a
    have hdf : df = [] := hdf
    subst hdf
    have ho := Option.some.inj ho
    subst ho
    have hsz : tm.size = 34 := hsz
    have t1 : tm.getD 1 undef = .slice (some ad0) 3 d := hfr 1 (by decide)
    clear hdep hfr
    go_simp
    exact hK _ W (Below.refl _ W) (fun W9 hb => rfl)
   case s5 =>
    intro o ho a W hS hsz hdf hfr hdep K hK
    obtain ⟨tm, df⟩ := a
    have hdf : df = [] := hdf
    subst hdf
    have ho := Option.some.inj ho
    subst ho
    have hsz : tm.size = 34 := hsz
    have t9 : tm.getD 9 undef = .slice (some ad0) 3 d := hdep ⟨4, .data⟩ (by simp) (by rfl) (by decide) W (Below.refl _ W)
    clear hdep hfr
    go_simp
    exact hK _ W (Below.refl _ W) (fun W9 hb => rfl)
   case s6 =>
    intro o ho a W hS hsz hdf hfr hdep K hK
    obtain ⟨tm, df⟩ := a
    have hdf : df = [] := hdf
    subst hdf
    have ho := Option.some.inj ho
    subst ho
    have hsz : tm.size = 34 := hsz
    have t10 : tm.getD 10 undef = .pointer (some (ad0.add 1)) := hdep ⟨5, .data⟩ (by simp) (by rfl) (by decide) W (Below.refl _ W)
    have cz : W.cell? { block := ad0.block, off := ad0.off + 1 } = some (.int .i64 (x1 : Int)) := by have h9 := HC1.out W hS; simpa [Addr.add] using h9
    clear hdep hfr
    go_simp
    exact hK _ W (Below.refl _ W) (fun W9 hb => rfl)
   case s7 =>
    intro o ho a W hS hsz hdf hfr hdep K hK
    obtain ⟨tm, df⟩ := a
    have hdf : df = [] := hdf
    subst hdf
    have ho := Option.some.inj ho
    subst ho
    have hsz : tm.size = 34 := hsz
    have t5 : tm.getD 5 undef = .slice A n c := hdep ⟨0, .data⟩ (by simp) (by rfl) (by decide) W (Below.refl _ W)
    have t8 : tm.getD 8 undef = .int .i64 (x0 : Int) := hdep ⟨3, .data⟩ (by simp) (by rfl) (by decide) W (Below.refl _ W)
    have t11 : tm.getD 11 undef = .int .i64 (x1 : Int) := hdep ⟨6, .data⟩ (by simp) (by rfl) (by decide) W (Below.refl _ W)
    clear hdep hfr
    go_simp
    refine (HL0.out W hS).mono ?_
    rintro e W9 ⟨rfl, rfl⟩
    exact hK _ _ (Below.refl _ _) (fun W8 hc => rfl)
   case s8 =>
    intro o ho a W hS hsz hdf hfr hdep K hK
    obtain ⟨tm, df⟩ := a
    have hdf : df = [] := hdf
    subst hdf
    have ho := Option.some.inj ho
    subst ho
    have hsz : tm.size = 34 := hsz
    have t12 : tm.getD 12 undef = .bool false := hdep ⟨7, .data⟩ (by simp) (by rfl) (by decide) W (Below.refl _ W)
    clear hdep hfr
    go_simp
    exact hK _ W (Below.refl _ W) (fun W9 hb => rfl)
   case s9 =>
    intro o ho a W hS hsz hdf hfr hdep K hK
    obtain ⟨tm, df⟩ := a
    have hdf : df = [] := hdf
    subst hdf
    have ho := Option.some.inj ho
    subst ho
    have hsz : tm.size = 34 := hsz
    have t13 : tm.getD 13 undef = .bool false := hdep ⟨8, .guard⟩ (by simp) (by rfl) (by decide) W (Below.refl _ W)
    have u13 : tm[13]'(by omega) = .bool false := getq t13 (by omega)
    clear hdep hfr
    go_simp
    exact hK _ W (Below.refl _ W) (fun W9 hb => rfl)
   case s10 =>
    intro o ho a W hS hsz hdf hfr hdep K hK
    obtain ⟨tm, df⟩ := a
    have hdf : df = [] := hdf
    subst hdf
    have ho := Option.some.inj ho
    subst ho
    have hsz : tm.size = 34 := hsz
    have t13 : tm.getD 13 undef = .bool false := hdep ⟨8, .guard⟩ (by simp) (by rfl) (by decide) W (Below.refl _ W)
    have u13 : tm[13]'(by omega) = .bool false := getq t13 (by omega)
    clear hdep hfr
    go_simp
    exact hK _ W (Below.refl _ W) (fun W9 hb => rfl)
   case s11 =>
    intro o ho a W hS hsz hdf hfr hdep K hK
    obtain ⟨tm, df⟩ := a
    have hdf : df = [] := hdf
    subst hdf
    have ho := Option.some.inj ho
    subst ho
    have hsz : tm.size = 34 := hsz
    have t13 : tm.getD 13 undef = .bool false := hdep ⟨8, .guard⟩ (by simp) (by rfl) (by decide) W (Below.refl _ W)
    have u13 : tm[13]'(by omega) = .bool false := getq t13 (by omega)
    clear hdep hfr
    go_simp
    exact hK _ W (Below.refl _ W) (fun W9 hb => rfl)
   case s12 =>
    intro o ho a W hS hsz hdf hfr hdep K hK
    obtain ⟨tm, df⟩ := a
    have hdf : df = [] := hdf
    subst hdf
    have ho := Option.some.inj ho
    subst ho
    have hsz : tm.size = 34 := hsz
    have t13 : tm.getD 13 undef = .bool false := hdep ⟨8, .guard⟩ (by simp) (by rfl) (by decide) W (Below.refl _ W)
    have u13 : tm[13]'(by omega) = .bool false := getq t13 (by omega)
    clear hdep hfr
    go_simp
    exact hK _ W (Below.refl _ W) (fun W9 hb => rfl)
   case s13 =>
    intro o ho a W hS hsz hdf hfr hdep K hK
    obtain ⟨tm, df⟩ := a
    have hdf : df = [] := hdf
    subst hdf
    have ho := Option.some.inj ho
    subst ho
    have hsz : tm.size = 34 := hsz
    have t13 : tm.getD 13 undef = .bool false := hdep ⟨8, .guard⟩ (by simp) (by rfl) (by decide) W (Below.refl _ W)
    have u13 : tm[13]'(by omega) = .bool false := getq t13 (by omega)
    clear hdep hfr
    go_simp
    exact hK _ W (Below.refl _ W) (fun W9 hb => rfl)
   case s14 =>
    intro o ho a W hS hsz hdf hfr hdep K hK
    obtain ⟨tm, df⟩ := a
    have hdf : df = [] := hdf
    subst hdf
    have ho := Option.some.inj ho
    subst ho
    have hsz : tm.size = 34 := hsz
    have t13 : tm.getD 13 undef = .bool false := hdep ⟨8, .guard⟩ (by simp) (by rfl) (by decide) W (Below.refl _ W)
    have u13 : tm[13]'(by omega) = .bool false := getq t13 (by omega)
    clear hdep hfr
    go_simp
    exact hK _ W (Below.refl _ W) (fun W9 hb => rfl)
   case s15 =>
    intro o ho a W hS hsz hdf hfr hdep K hK
    obtain ⟨tm, df⟩ := a
    have hdf : df = [] := hdf
    subst hdf
    have ho := Option.some.inj ho
    subst ho
    have hsz : tm.size = 34 := hsz
    have t13 : tm.getD 13 undef = .bool false := hdep ⟨8, .guard⟩ (by simp) (by rfl) (by decide) W (Below.refl _ W)
    have u13 : tm[13]'(by omega) = .bool false := getq t13 (by omega)
    clear hdep hfr
    go_simp
    exact hK _ W (Below.refl _ W) (fun W9 hb => rfl)
   case s16 =>
    intro o ho a W hS hsz hdf hfr hdep K hK
    obtain ⟨tm, df⟩ := a
    have hdf : df = [] := hdf
    subst hdf
    have ho := Option.some.inj ho
    subst ho
    have hsz : tm.size = 34 := hsz
    have t13 : tm.getD 13 undef = .bool false := hdep ⟨8, .guard⟩ (by simp) (by rfl) (by decide) W (Below.refl _ W)
    have u13 : tm[13]'(by omega) = .bool false := getq t13 (by omega)
    clear hdep hfr
    go_simp
    exact hK _ W (Below.refl _ W) (fun W9 hb => rfl)
   case s17 =>
    intro o ho a W hS hsz hdf hfr hdep K hK
    obtain ⟨tm, df⟩ := a
    have hdf : df = [] := hdf
    subst hdf
    have ho := Option.some.inj ho
    subst ho
    have hsz : tm.size = 34 := hsz
    have t13 : tm.getD 13 undef = .bool false := hdep ⟨8, .data⟩ (by simp) (by rfl) (by decide) W (Below.refl _ W)
    have t21 : tm.getD 21 undef = undef := hdep ⟨16, .data⟩ (by simp) (by rfl) (by decide) W (Below.refl _ W)
    clear hdep hfr
    go_simp
    exact hK _ W (Below.refl _ W) (fun W9 hb => rfl)
   case s18 =>
    intro o ho a W hS hsz hdf hfr hdep K hK
    obtain ⟨tm, df⟩ := a
    have hdf : df = [] := hdf
    subst hdf
    have ho := Option.some.inj ho
    subst ho
    have hsz : tm.size = 34 := hsz
    have t22 : tm.getD 22 undef = .bool false := hdep ⟨17, .data⟩ (by simp) (by rfl) (by decide) W (Below.refl _ W)
    clear hdep hfr
    go_simp
    exact hK _ W (Below.refl _ W) (fun W9 hb => rfl)
   case s19 =>
    intro o ho a W hS hsz hdf hfr hdep K hK
    obtain ⟨tm, df⟩ := a
    have hdf : df = [] := hdf
    subst hdf
    have ho := Option.some.inj ho
    subst ho
    have hsz : tm.size = 34 := hsz
    have t23 : tm.getD 23 undef = .bool false := hdep ⟨18, .guard⟩ (by simp) (by rfl) (by decide) W (Below.refl _ W)
    have u23 : tm[23]'(by omega) = .bool false := getq t23 (by omega)
    clear hdep hfr
    go_simp
    exact hK _ W (Below.refl _ W) (fun W9 hb => rfl)
   case s20 =>
    intro o ho a W hS hsz hdf hfr hdep K hK
    obtain ⟨tm, df⟩ := a
    have hdf : df = [] := hdf
    subst hdf
    have ho := Option.some.inj ho
    subst ho
    have hsz : tm.size = 34 := hsz
    have t23 : tm.getD 23 undef = .bool false := hdep ⟨18, .guard⟩ (by simp) (by rfl) (by decide) W (Below.refl _ W)
    have u23 : tm[23]'(by omega) = .bool false := getq t23 (by omega)
    clear hdep hfr
    go_simp
    exact hK _ W (Below.refl _ W) (fun W9 hb => rfl)
   case s21 =>
    intro o ho a W hS hsz hdf hfr hdep K hK
    obtain ⟨tm, df⟩ := a
    have hdf : df = [] := hdf
    subst hdf
    have ho := Option.some.inj ho
    subst ho
    have hsz : tm.size = 34 := hsz
    have t23 : tm.getD 23 undef = .bool false := hdep ⟨18, .guard⟩ (by simp) (by rfl) (by decide) W (Below.refl _ W)
    have u23 : tm[23]'(by omega) = .bool false := getq t23 (by omega)
    clear hdep hfr
    go_simp
    exact hK _ W (Below.refl _ W) (fun W9 hb => rfl)
   case s22 =>
    intro o ho a W hS hsz hdf hfr hdep K hK
    obtain ⟨tm, df⟩ := a
    have hdf : df = [] := hdf
    subst hdf
    have ho := Option.some.inj ho
    subst ho
    have hsz : tm.size = 34 := hsz
    have t23 : tm.getD 23 undef = .bool false := hdep ⟨18, .guard⟩ (by simp) (by rfl) (by decide) W (Below.refl _ W)
    have u23 : tm[23]'(by omega) = .bool false := getq t23 (by omega)
    clear hdep hfr
    go_simp
    exact hK _ W (Below.refl _ W) (fun W9 hb => rfl)
   case s23 =>
    intro o ho a W hS hsz hdf hfr hdep K hK
    obtain ⟨tm, df⟩ := a
    have hdf : df = [] := hdf
    subst hdf
    have ho := Option.some.inj ho
    subst ho
    have hsz : tm.size = 34 := hsz
    have t23 : tm.getD 23 undef = .bool false := hdep ⟨18, .guard⟩ (by simp) (by rfl) (by decide) W (Below.refl _ W)
    have u23 : tm[23]'(by omega) = .bool false := getq t23 (by omega)
    clear hdep hfr
    go_simp
    exact hK _ W (Below.refl _ W) (fun W9 hb => rfl)
   case s24 =>
    intro o ho a W hS hsz hdf hfr hdep K hK
    obtain ⟨tm, df⟩ := a
    have hdf : df = [] := hdf
    subst hdf
    have ho := Option.some.inj ho
    subst ho
    have hsz : tm.size = 34 := hsz
    have t23 : tm.getD 23 undef = .bool false := hdep ⟨18, .guard⟩ (by simp) (by rfl) (by decide) W (Below.refl _ W)
    have u23 : tm[23]'(by omega) = .bool false := getq t23 (by omega)
    clear hdep hfr
    go_simp
    exact hK _ W (Below.refl _ W) (fun W9 hb => rfl)
   case s25 =>
    intro o ho a W hS hsz hdf hfr hdep K hK
    obtain ⟨tm, df⟩ := a
    have hdf : df = [] := hdf
    subst hdf
    have ho := Option.some.inj ho
    subst ho
    have hsz : tm.size = 34 := hsz
    have t23 : tm.getD 23 undef = .bool false := hdep ⟨18, .guard⟩ (by simp) (by rfl) (by decide) W (Below.refl _ W)
    have u23 : tm[23]'(by omega) = .bool false := getq t23 (by omega)
    clear hdep hfr
    go_simp
    exact hK _ W (Below.refl _ W) (fun W9 hb => rfl)
   case s26 =>
    intro o ho a W hS hsz hdf hfr hdep K hK
    obtain ⟨tm, df⟩ := a
    have hdf : df = [] := hdf
    subst hdf
    have ho := Option.some.inj ho
    subst ho
    have hsz : tm.size = 34 := hsz
    have t23 : tm.getD 23 undef = .bool false := hdep ⟨18, .guard⟩ (by simp) (by rfl) (by decide) W (Below.refl _ W)
    have u23 : tm[23]'(by omega) = .bool false := getq t23 (by omega)
    clear hdep hfr
    go_simp
    exact hK _ W (Below.refl _ W) (fun W9 hb => rfl)
   case s27 =>
    intro o ho a W hS hsz hdf hfr hdep K hK
    obtain ⟨tm, df⟩ := a
    have hdf : df = [] := hdf
    subst hdf
    have ho := Option.some.inj ho
    subst ho
    have hsz : tm.size = 34 := hsz
    have t23 : tm.getD 23 undef = .bool false := hdep ⟨18, .guard⟩ (by simp) (by rfl) (by decide) W (Below.refl _ W)
    have u23 : tm[23]'(by omega) = .bool false := getq t23 (by omega)
    clear hdep hfr
    go_simp
    exact hK _ W (Below.refl _ W) (fun W9 hb => rfl)
   case s28 =>
    intro o ho a W hS hsz hdf hfr hdep K hK
    obtain ⟨tm, df⟩ := a
    have hdf : df = [] := hdf
    subst hdf
    have ho := Option.some.inj ho
    subst ho
    have hsz : tm.size = 34 := hsz
    have t23 : tm.getD 23 undef = .bool false := hdep ⟨18, .data⟩ (by simp) (by rfl) (by decide) W (Below.refl _ W)
    have t32 : tm.getD 32 undef = undef := hdep ⟨27, .data⟩ (by simp) (by rfl) (by decide) W (Below.refl _ W)
    clear hdep hfr
    go_simp
    exact hK _ W (Below.refl _ W) (fun W9 hb => rfl)
   case s29 =>
    intro o ho a W hS hsz hdf hfr hdep K hK
    obtain ⟨tm, df⟩ := a
    have hdf : df = [] := hdf
    subst hdf
    have ho := Option.some.inj ho
    subst ho
    have hsz : tm.size = 34 := hsz
    have t33 : tm.getD 33 undef = .bool false := hdep ⟨28, .data⟩ (by simp) (by rfl) (by decide) W (Below.refl _ W)
    clear hdep hfr
    go_simp
    exact hK _ W (Below.refl _ W) (fun W9 hb => rfl)
  case fin =>
   intro W hS
   simp only [fillD]
   go_simp
   go_wp2
   go_ret
   exact ⟨rfl, hS⟩
 case true =>
  cases b1
  case false =>
   go_enter Tryz.func105, Tryz.ntmps105
   go_wp2
   refine wp_region_constD [.slice A n c, .slice (some ad0) 3 d, .pointer (some ad0), .int .i64 (x0 : Int), .slice (some ad0) 3 d, .pointer (some (ad0.add 1)), .int .i64 (x1 : Int), .bool true, .bool true, .slice A n c, .slice (some ad0) 3 d, .pointer (some ad0), .int .i64 (x0 : Int), .slice (some ad0) 3 d, .pointer (some (ad0.add 2)), .int .i64 (x2 : Int), .bool false, .bool false, .bool false, undef, undef, undef, undef, undef, undef, undef, undef, undef, .bool false, .bool false] [5, 6, 7, 8, 9, 10, 11, 12, 13, 14, 15, 16, 17, 18, 19, 20, 21, 22, 23, 24, 25, 26, 27, 28, 29, 30, 31, 32, 33, 4] (fun W => Below w.heap.size w W) (fun W W' => Below W.heap.size W W') 30 34 rfl rfl rfl rfl (by decide) (by decide) (by kernel_rfl) (by kernel_rfl) (by kernel_rfl) (fun W => Below.refl _ W) (fun W1 W2 W3 h1 h2 => h1.trans (h2.mono h1.size)) (fun W W' h h2 => h.trans (h2.mono h.size)) (Below.refl _ w).drew ?hop ?fin
   case hop =>
    refine (lt_more (lt_more (lt_more (lt_more (lt_more (lt_more (lt_more (lt_more (lt_more (lt_more (lt_more (lt_more (lt_more (lt_more (lt_more (lt_more (lt_more (lt_more (lt_more (lt_more (lt_more (lt_more (lt_more (lt_more (lt_more (lt_more (lt_more (lt_more (lt_more (lt_more (lt_none _) ?s0) ?s1) ?s2) ?s3) ?s4) ?s5) ?s6) ?s7) ?s8) ?s9) ?s10) ?s11) ?s12) ?s13) ?s14) ?s15) ?s16) ?s17) ?s18) ?s19) ?s20) ?s21) ?s22) ?s23) ?s24) ?s25) ?s26) ?s27) ?s28) ?s29)
    case s0 =>
     intro o ho a W hS hsz hdf hfr hdep K hK
     obtain ⟨tm, df⟩ := a
     have hdf : df = [] := hdf
     subst hdf
     have ho := Option.some.inj ho
     subst ho
     have hsz : tm.size = 34 := hsz
     have t0 : tm.getD 0 undef = .slice A n c := hfr 0 (by decide)
     clear hdep hfr
     go_simp
     exact hK _ W (Below.refl _ W) (fun W9 hb => rfl)
    case s1 =>
     intro o ho a W hS hsz hdf hfr hdep K hK
     obtain ⟨tm, df⟩ := a
     have hdf : df = [] := hdf
     subst hdf
     have ho := Option.some.inj ho
     subst ho
     have hsz : tm.size = 34 := hsz
     have t1 : tm.getD 1 undef = .slice (some ad0) 3 d := hfr 1 (by decide)
     clear hdep hfr
     go_simp
     exact hK _ W (Below.refl _ W) (fun W9 hb => rfl)
    case s2 =>
     intro o ho a W hS hsz hdf hfr hdep K hK
     obtain ⟨tm, df⟩ := a
     have hdf : df = [] := hdf
     subst hdf
     have ho := Option.some.inj ho
     subst ho
     have hsz : tm.size = 34 := hsz
     have t6 : tm.getD 6 undef = .slice (some ad0) 3 d := hdep ⟨1, .data⟩ (by simp) (by rfl) (by decide) W (Below.refl _ W)
     clear hdep hfr
     go_simp
     exact hK _ W (Below.refl _ W) (fun W9 hb => rfl)
    case s3 =>
     intro o ho a W hS hsz hdf hfr hdep K hK
     obtain ⟨tm, df⟩ := a
     have hdf : df = [] := hdf
     subst hdf
     have ho := Option.some.inj ho
     subst ho
     have hsz : tm.size = 34 := hsz
     have t7 : tm.getD 7 undef = .pointer (some ad0) := hdep ⟨2, .data⟩ (by simp) (by rfl) (by decide) W (Below.refl _ W)
     have cz := HC0.out W hS
     rw [add_nil] at cz
     clear hdep hfr
     go_simp
     exact hK _ W (Below.refl _ W) (fun W9 hb => rfl)
    case s4 =>
     intro o ho a W hS hsz hdf hfr hdep K hK
     obtain ⟨tm, df⟩ := a
     have hdf : df = [] := hdf
     subst hdf
     have ho := Option.some.inj ho
     subst ho
     have hsz : tm.size = 34 := hsz
     have t1 : tm.getD 1 undef = .slice (some ad0) 3 d := hfr 1 (by decide)
     clear hdep hfr
     go_simp
     exact hK _ W (Below.refl _ W) (fun W9 hb => rfl)
    case s5 =>
     intro o ho a W hS hsz hdf hfr hdep K hK
     obtain ⟨tm, df⟩ := a
     have hdf : df = [] := hdf
     subst hdf
     have ho := Option.some.inj ho
     subst ho
     have hsz : tm.size = 34 := hsz
     have t9 : tm.getD 9 undef = .slice (some ad0) 3 d := hdep ⟨4, .data⟩ (by simp) (by rfl) (by decide) W (Below.refl _ W)
     clear hdep hfr
     go_simp
     exact hK _ W (Below.refl _ W) (fun W9 hb => rfl)
    case s6 =>
     intro o ho a W hS hsz hdf hfr hdep K hK
     obtain ⟨tm, df⟩ := a
     have hdf : df = [] := hdf
     subst hdf
     have ho := Option.some.inj ho
     subst ho
     have hsz : tm.size = 34 := hsz
     have t10 : tm.getD 10 undef = .pointer (some (ad0.add 1)) := hdep ⟨5, .data⟩ (by simp) (by rfl) (by decide) W (Below.refl _ W)
     have cz : W.cell? { block := ad0.block, off := ad0.off + 1 } = some (.int .i64 (x1 : Int)) := by have h9 := HC1.out W hS; simpa [Addr.add] using h9
     clear hdep hfr
     go_simp
     exact hK _ W (Below.refl _ W) (fun W9 hb => rfl)
    case s7 =>
     intro o ho a W hS hsz hdf hfr hdep K hK
     obtain ⟨tm, df⟩ := a
     have hdf : df = [] := hdf
     subst hdf
     have ho := Option.some.inj ho
     subst ho
     have hsz : tm.size = 34 := hsz
     have t5 : tm.getD 5 undef = .slice A n c := hdep ⟨0, .data⟩ (by simp) (by rfl) (by decide) W (Below.refl _ W)
     have t8 : tm.getD 8 undef = .int .i64 (x0 : Int) := hdep ⟨3, .data⟩ (by simp) (by rfl) (by decide) W (Below.refl _ W)
     have t11 : tm.getD 11 undef = .int .i64 (x1 : Int) := hdep ⟨6, .data⟩ (by simp) (by rfl) (by decide) W (Below.refl _ W)
     clear hdep hfr
     go_simp
     refine (HL0.out W hS).mono ?_
     rintro e W9 ⟨rfl, rfl⟩
     exact hK _ _ (Below.refl _ _) (fun W8 hc => rfl)
    case s8 =>
     intro o ho a W hS hsz hdf hfr hdep K hK
     obtain ⟨tm, df⟩ := a
     have hdf : df = [] := hdf
     subst hdf
     have ho := Option.some.inj ho
     subst ho
     have hsz : tm.size = 34 := hsz
     have t12 : tm.getD 12 undef = .bool true := hdep ⟨7, .data⟩ (by simp) (by rfl) (by decide) W (Below.refl _ W)
     clear hdep hfr
     go_simp
     exact hK _ W (Below.refl _ W) (fun W9 hb => rfl)
    case s9 =>
     intro o ho a W hS hsz hdf hfr hdep K hK
     obtain ⟨tm, df⟩ := a
     have hdf : df = [] := hdf
     subst hdf
     have ho := Option.some.inj ho
     subst ho
     have hsz : tm.size = 34 := hsz
     have t0 : tm.getD 0 undef = .slice A n c := hfr 0 (by decide)
     have t13 : tm.getD 13 undef = .bool true := hdep ⟨8, .guard⟩ (by simp) (by rfl) (by decide) W (Below.refl _ W)
     have u13 : tm[13]'(by omega) = .bool true := getq t13 (by omega)
     clear hdep hfr
     go_simp
     exact hK _ W (Below.refl _ W) (fun W9 hb => rfl)
    case s10 =>
     intro o ho a W hS hsz hdf hfr hdep K hK
     obtain ⟨tm, df⟩ := a
     have hdf : df = [] := hdf
     subst hdf
     have ho := Option.some.inj ho
     subst ho
     have hsz : tm.size = 34 := hsz
     have t1 : tm.getD 1 undef = .slice (some ad0) 3 d := hfr 1 (by decide)
     have t13 : tm.getD 13 undef = .bool true := hdep ⟨8, .guard⟩ (by simp) (by rfl) (by decide) W (Below.refl _ W)
     have u13 : tm[13]'(by omega) = .bool true := getq t13 (by omega)
     clear hdep hfr
     go_simp
     exact hK _ W (Below.refl _ W) (fun W9 hb => rfl)
    case s11 =>
     intro o ho a W hS hsz hdf hfr hdep K hK
     obtain ⟨tm, df⟩ := a
     have hdf : df = [] := hdf
     subst hdf
     have ho := Option.some.inj ho
     subst ho
     have hsz : tm.size = 34 := hsz
     have t15 : tm.getD 15 undef = .slice (some ad0) 3 d := hdep ⟨10, .data⟩ (by simp) (by rfl) (by decide) W (Below.refl _ W)
     have t13 : tm.getD 13 undef = .bool true := hdep ⟨8, .guard⟩ (by simp) (by rfl) (by decide) W (Below.refl _ W)
     have u13 : tm[13]'(by omega) = .bool true := getq t13 (by omega)
     clear hdep hfr
     go_simp
     exact hK _ W (Below.refl _ W) (fun W9 hb => rfl)
    case s12 =>
     intro o ho a W hS hsz hdf hfr hdep K hK
     obtain ⟨tm, df⟩ := a
     have hdf : df = [] := hdf
     subst hdf
     have ho := Option.some.inj ho
     subst ho
     have hsz : tm.size = 34 := hsz
     have t16 : tm.getD 16 undef = .pointer (some ad0) := hdep ⟨11, .data⟩ (by simp) (by rfl) (by decide) W (Below.refl _ W)
     have t13 : tm.getD 13 undef = .bool true := hdep ⟨8, .guard⟩ (by simp) (by rfl) (by decide) W (Below.refl _ W)
     have u13 : tm[13]'(by omega) = .bool true := getq t13 (by omega)
     have cz := HC0.out W hS
     rw [add_nil] at cz
     clear hdep hfr
     go_simp
     exact hK _ W (Below.refl _ W) (fun W9 hb => rfl)
    case s13 =>
     intro o ho a W hS hsz hdf hfr hdep K hK
     obtain ⟨tm, df⟩ := a
     have hdf : df = [] := hdf
     subst hdf
     have ho := Option.some.inj ho
     subst ho
     have hsz : tm.size = 34 := hsz
     have t1 : tm.getD 1 undef = .slice (some ad0) 3 d := hfr 1 (by decide)
     have t13 : tm.getD 13 undef = .bool true := hdep ⟨8, .guard⟩ (by simp) (by rfl) (by decide) W (Below.refl _ W)
     have u13 : tm[13]'(by omega) = .bool true := getq t13 (by omega)
     clear hdep hfr
     go_simp
     exact hK _ W (Below.refl _ W) (fun W9 hb => rfl)
    case s14 =>
     intro o ho a W hS hsz hdf hfr hdep K hK
     obtain ⟨tm, df⟩ := a
     have hdf : df = [] := hdf
     subst hdf
     have ho := Option.some.inj ho
     subst ho
     have hsz : tm.size = 34 := hsz
     have t18 : tm.getD 18 undef = .slice (some ad0) 3 d := hdep ⟨13, .data⟩ (by simp) (by rfl) (by decide) W (Below.refl _ W)
     have t13 : tm.getD 13 undef = .bool true := hdep ⟨8, .guard⟩ (by simp) (by rfl) (by decide) W (Below.refl _ W)
     have u13 : tm[13]'(by omega) = .bool true := getq t13 (by omega)
     clear hdep hfr
     go_simp
     exact hK _ W (Below.refl _ W) (fun W9 hb => rfl)
    case s15 =>
     intro o ho a W hS hsz hdf hfr hdep K hK
     obtain ⟨tm, df⟩ := a
     have hdf : df = [] := hdf
     subst hdf
     have ho := Option.some.inj ho
     subst ho
     have hsz : tm.size = 34 := hsz
     have t19 : tm.getD 19 undef = .pointer (some (ad0.add 2)) := hdep ⟨14, .data⟩ (by simp) (by rfl) (by decide) W (Below.refl _ W)
     have t13 : tm.getD 13 undef = .bool true := hdep ⟨8, .guard⟩ (by simp) (by rfl) (by decide) W (Below.refl _ W)
     have u13 : tm[13]'(by omega) = .bool true := getq t13 (by omega)
     have cz : W.cell? { block := ad0.block, off := ad0.off + 2 } = some (.int .i64 (x2 : Int)) := by have h9 := HC2.out W hS; simpa [Addr.add] using h9
     clear hdep hfr
     go_simp
     exact hK _ W (Below.refl _ W) (fun W9 hb => rfl)
    case s16 =>
     intro o ho a W hS hsz hdf hfr hdep K hK
     obtain ⟨tm, df⟩ := a
     have hdf : df = [] := hdf
     subst hdf
     have ho := Option.some.inj ho
     subst ho
     have hsz : tm.size = 34 := hsz
     have t14 : tm.getD 14 undef = .slice A n c := hdep ⟨9, .data⟩ (by simp) (by rfl) (by decide) W (Below.refl _ W)
     have t17 : tm.getD 17 undef = .int .i64 (x0 : Int) := hdep ⟨12, .data⟩ (by simp) (by rfl) (by decide) W (Below.refl _ W)
     have t20 : tm.getD 20 undef = .int .i64 (x2 : Int) := hdep ⟨15, .data⟩ (by simp) (by rfl) (by decide) W (Below.refl _ W)
     have t13 : tm.getD 13 undef = .bool true := hdep ⟨8, .guard⟩ (by simp) (by rfl) (by decide) W (Below.refl _ W)
     have u13 : tm[13]'(by omega) = .bool true := getq t13 (by omega)
     clear hdep hfr
     go_simp
     refine (HL1.out W hS).mono ?_
     rintro e W9 ⟨rfl, rfl⟩
     exact hK _ _ (Below.refl _ _) (fun W8 hc => rfl)
    case s17 =>
     intro o ho a W hS hsz hdf hfr hdep K hK
     obtain ⟨tm, df⟩ := a
     have hdf : df = [] := hdf
     subst hdf
     have ho := Option.some.inj ho
     subst ho
     have hsz : tm.size = 34 := hsz
     have t13 : tm.getD 13 undef = .bool true := hdep ⟨8, .data⟩ (by simp) (by rfl) (by decide) W (Below.refl _ W)
     have t21 : tm.getD 21 undef = .bool false := hdep ⟨16, .data⟩ (by simp) (by rfl) (by decide) W (Below.refl _ W)
     clear hdep hfr
     go_simp
     exact hK _ W (Below.refl _ W) (fun W9 hb => rfl)
    case s18 =>
     intro o ho a W hS hsz hdf hfr hdep K hK
     obtain ⟨tm, df⟩ := a
     have hdf : df = [] := hdf
     subst hdf
     have ho := Option.some.inj ho
     subst ho
     have hsz : tm.size = 34 := hsz
     have t22 : tm.getD 22 undef = .bool false := hdep ⟨17, .data⟩ (by simp) (by rfl) (by decide) W (Below.refl _ W)
     clear hdep hfr
     go_simp
     exact hK _ W (Below.refl _ W) (fun W9 hb => rfl)
    case s19 =>
     intro o ho a W hS hsz hdf hfr hdep K hK
     obtain ⟨tm, df⟩ := a
     have hdf : df = [] := hdf
     subst hdf
     have ho := Option.some.inj ho
     subst ho
     have hsz : tm.size = 34 := hsz
     have t23 : tm.getD 23 undef = .bool false := hdep ⟨18, .guard⟩ (by simp) (by rfl) (by decide) W (Below.refl _ W)
     have u23 : tm[23]'(by omega) = .bool false := getq t23 (by omega)
     clear hdep hfr
     go_simp
     exact hK _ W (Below.refl _ W) (fun W9 hb => rfl)
    case s20 =>
     intro o ho a W hS hsz hdf hfr hdep K hK
     obtain ⟨tm, df⟩ := a
     have hdf : df = [] := hdf
     subst hdf
     have ho := Option.some.inj ho
     subst ho
     have hsz : tm.size = 34 := hsz
     have t23 : tm.getD 23 undef = .bool false := hdep ⟨18, .guard⟩ (by simp) (by rfl) (by decide) W (Below.refl _ W)
     have u23 : tm[23]'(by omega) = .bool false := getq t23 (by omega)
     clear hdep hfr
     go_simp
     exact hK _ W (Below.refl _ W) (fun W9 hb => rfl)
    case s21 =>
     intro o ho a W hS hsz hdf hfr hdep K hK
     obtain ⟨tm, df⟩ := a
     have hdf : df = [] := hdf
     subst hdf
     have ho := Option.some.inj ho
     subst ho
     have hsz : tm.size = 34 := hsz
     have t23 : tm.getD 23 undef = .bool false := hdep ⟨18, .guard⟩ (by simp) (by rfl) (by decide) W (Below.refl _ W)
     have u23 : tm[23]'(by omega) = .bool false := getq t23 (by omega)
     clear hdep hfr
     go_simp
     exact hK _ W (Below.refl _ W) (fun W9 hb => rfl)
    case s22 =>
     intro o ho a W hS hsz hdf hfr hdep K hK
     obtain ⟨tm, df⟩ := a
     have hdf : df = [] := hdf
     subst hdf
     have ho := Option.some.inj ho
     subst ho
     have hsz : tm.size = 34 := hsz
     have t23 : tm.getD 23 undef = .bool false := hdep ⟨18, .guard⟩ (by simp) (by rfl) (by decide) W (Below.refl _ W)
     have u23 : tm[23]'(by omega) = .bool false := getq t23 (by omega)
     clear hdep hfr
     go_simp
     exact hK _ W (Below.refl _ W) (fun W9 hb => rfl)
    case s23 =>
     intro o ho a W hS hsz hdf hfr hdep K hK
     obtain ⟨tm, df⟩ := a
     have hdf : df = [] := hdf
     subst hdf
     have ho := Option.some.inj ho
     subst ho
     have hsz : tm.size = 34 := hsz
     have t23 : tm.getD 23 undef = .bool false := hdep ⟨18, .guard⟩ (by simp) (by rfl) (by decide) W (Below.refl _ W)
     have u23 : tm[23]'(by omega) = .bool false := getq t23 (by omega)
     clear hdep hfr
     go_simp
     exact hK _ W (Below.refl _ W) (fun W9 hb => rfl)
    case s24 =>
     intro o ho a W hS hsz hdf hfr hdep K hK
     obtain ⟨tm, df⟩ := a
     have hdf : df = [] := hdf
     subst hdf
     have ho := Option.some.inj ho
     subst ho
     have hsz : tm.size = 34 := hsz
     have t23 : tm.getD 23 undef = .bool false := hdep ⟨18, .guard⟩ (by simp) (by rfl) (by decide) W (Below.refl _ W)
     have u23 : tm[23]'(by omega) = .bool false := getq t23 (by omega)
     clear hdep hfr
     go_simp
     exact hK _ W (Below.refl _ W) (fun W9 hb => rfl)
    case s25 =>
     intro o ho a W hS hsz hdf hfr hdep K hK
     obtain ⟨tm, df⟩ := a
     have hdf : df = [] := hdf
     subst hdf
     have ho := Option.some.inj ho
     subst ho
     have hsz : tm.size = 34 := hsz
     have t23 : tm.getD 23 undef = .bool false := hdep ⟨18, .guard⟩ (by simp) (by rfl) (by decide) W (Below.refl _ W)
     have u23 : tm[23]'(by omega) = .bool false := getq t23 (by omega)
     clear hdep hfr
     go_simp
     exact hK _ W (Below.refl _ W) (fun W9 hb => rfl)
    case s26 =>
     intro o ho a W hS hsz hdf hfr hdep K hK
     obtain ⟨tm, df⟩ := a
     have hdf : df = [] := hdf
     subst hdf
     have ho := Option.some.inj ho
     subst ho
     have hsz : tm.size = 34 := hsz
     have t23 : tm.getD 23 undef = .bool false := hdep ⟨18, .guard⟩ (by simp) (by rfl) (by decide) W (Below.refl _ W)
     have u23 : tm[23]'(by omega) = .bool false := getq t23 (by omega)
     clear hdep hfr
     go_simp
     exact hK _ W (Below.refl _ W) (fun W9 hb => rfl)
    case s27 =>
     intro o ho a W hS hsz hdf hfr hdep K hK
     obtain ⟨tm, df⟩ := a
     have hdf : df = [] := hdf
     subst hdf
     have ho := Option.some.inj ho
     subst ho
     have hsz : tm.size = 34 := hsz
     have t23 : tm.getD 23 undef = .bool false := hdep ⟨18, .guard⟩ (by simp) (by rfl) (by decide) W (Below.refl _ W)
     have u23 : tm[23]'(by omega) = .bool false := getq t23 (by omega)
     clear hdep hfr
     go_simp
     exact hK _ W (Below.refl _ W) (fun W9 hb => rfl)
    case s28 =>
     intro o ho a W hS hsz hdf hfr hdep K hK
     obtain ⟨tm, df⟩ := a
     have hdf : df = [] := hdf
     subst hdf
     have ho := Option.some.inj ho
     subst ho
     have hsz : tm.size = 34 := hsz
     have t23 : tm.getD 23 undef = .bool false := hdep ⟨18, .data⟩ (by simp) (by rfl) (by decide) W (Below.refl _ W)
     have t32 : tm.getD 32 undef = undef := hdep ⟨27, .data⟩ (by simp) (by rfl) (by decide) W (Below.refl _ W)
     clear hdep hfr
     go_simp
     exact hK _ W (Below.refl _ W) (fun W9 hb => rfl)
    case s29 =>
     intro o ho a W hS hsz hdf hfr hdep K hK
     obtain ⟨tm, df⟩ := a
     have hdf : df = [] := hdf
     subst hdf
     have ho := Option.some.inj ho
     subst ho
     have hsz : tm.size = 34 := hsz
     have t33 : tm.getD 33 undef = .bool false := hdep ⟨28, .data⟩ (by simp) (by rfl) (by decide) W (Below.refl _ W)
     clear hdep hfr
     go_simp
     exact hK _ W (Below.refl _ W) (fun W9 hb => rfl)
   case fin =>
    intro W hS
    simp only [fillD]
    go_simp
    go_wp2
    go_ret
    exact ⟨rfl, hS⟩
  case true =>
   go_enter Tryz.func105, Tryz.ntmps105
   go_wp2
   refine wp_region_constD [.slice A n c, .slice (some ad0) 3 d, .pointer (some ad0), .int .i64 (x0 : Int), .slice (some ad0) 3 d, .pointer (some (ad0.add 1)), .int .i64 (x1 : Int), .bool true, .bool true, .slice A n c, .slice (some ad0) 3 d, .pointer (some ad0), .int .i64 (x0 : Int), .slice (some ad0) 3 d, .pointer (some (ad0.add 2)), .int .i64 (x2 : Int), .bool true, .bool true, .bool true, .slice A n c, .slice (some ad0) 3 d, .pointer (some (ad0.add 1)), .int .i64 (x1 : Int), .slice (some ad0) 3 d, .pointer (some (ad0.add 2)), .int .i64 (x2 : Int), .bool b2, .bool (!b2), .bool (!b2), .bool (!b2)] [5, 6, 7, 8, 9, 10, 11, 12, 13, 14, 15, 16, 17, 18, 19, 20, 21, 22, 23, 24, 25, 26, 27, 28, 29, 30, 31, 32, 33, 4] (fun W => Below w.heap.size w W) (fun W W' => Below W.heap.size W W') 30 34 rfl rfl rfl rfl (by decide) (by decide) (by kernel_rfl) (by kernel_rfl) (by kernel_rfl) (fun W => Below.refl _ W) (fun W1 W2 W3 h1 h2 => h1.trans (h2.mono h1.size)) (fun W W' h h2 => h.trans (h2.mono h.size)) (Below.refl _ w).drew ?hop ?fin
   case hop =>
    refine (lt_more (lt_more (lt_more (lt_more (lt_more (lt_more (lt_more (lt_more (lt_more (lt_more (lt_more (lt_more (lt_more (lt_more (lt_more (lt_more (lt_more (lt_more (lt_more (lt_more (lt_more (lt_more (lt_more (lt_more (lt_more (lt_more (lt_more (lt_more (lt_more (lt_more (lt_none _) ?s0) ?s1) ?s2) ?s3) ?s4) ?s5) ?s6) ?s7) ?s8) ?s9) ?s10) ?s11) ?s12) ?s13) ?s14) ?s15) ?s16) ?s17) ?s18) ?s19) ?s20) ?s21) ?s22) ?s23) ?s24) ?s25) ?s26) ?s27) ?s28) ?s29)
    case s0 =>
     intro o ho a W hS hsz hdf hfr hdep K hK
     obtain ⟨tm, df⟩ := a
     have hdf : df = [] := hdf
     subst hdf
     have ho := Option.some.inj ho
     subst ho
     have hsz : tm.size = 34 := hsz
     have t0 : tm.getD 0 undef = .slice A n c := hfr 0 (by decide)
     clear hdep hfr
     go_simp
     exact hK _ W (Below.refl _ W) (fun W9 hb => rfl)
    case s1 =>
     intro o ho a W hS hsz hdf hfr hdep K hK
     obtain ⟨tm, df⟩ := a
     have hdf : df = [] := hdf
     subst hdf
     have ho := Option.some.inj ho
     subst ho
     have hsz : tm.size = 34 := hsz
     have t1 : tm.getD 1 undef = .slice (some ad0) 3 d := hfr 1 (by decide)
     clear hdep hfr
     go_simp
     exact hK _ W (Below.refl _ W) (fun W9 hb => rfl)
    case s2 =>
     intro o ho a W hS hsz hdf hfr hdep K hK
     obtain ⟨tm, df⟩ := a
     have hdf : df = [] := hdf
     subst hdf
     have ho := Option.some.inj ho
     subst ho
     have hsz : tm.size = 34 := hsz
     have t6 : tm.getD 6 undef = .slice (some ad0) 3 d := hdep ⟨1, .data⟩ (by simp) (by rfl) (by decide) W (Below.refl _ W)
     clear hdep hfr
     go_simp
     exact hK _ W (Below.refl _ W) (fun W9 hb => rfl)
    case s3 =>
     intro o ho a W hS hsz hdf hfr hdep K hK
     obtain ⟨tm, df⟩ := a
     have hdf : df = [] := hdf
     subst hdf
     have ho := Option.some.inj ho
     subst ho
     have hsz : tm.size = 34 := hsz
     have t7 : tm.getD 7 undef = .pointer (some ad0) := hdep ⟨2, .data⟩ (by simp) (by rfl) (by decide) W (Below.refl _ W)
     have cz := HC0.out W hS
     rw [add_nil] at cz
     clear hdep hfr
     go_simp
     exact hK _ W (Below.refl _ W) (fun W9 hb => rfl)
    case s4 =>
     intro o ho a W hS hsz hdf hfr hdep K hK
     obtain ⟨tm, df⟩ := a
     have hdf : df = [] := hdf
     subst hdf
     have ho := Option.some.inj ho
     subst ho
     have hsz : tm.size = 34 := hsz
     have t1 : tm.getD 1 undef = .slice (some ad0) 3 d := hfr 1 (by decide)
     clear hdep hfr
     go_simp
     exact hK _ W (Below.refl _ W) (fun W9 hb => rfl)
    case s5 =>
     intro o ho a W hS hsz hdf hfr hdep K hK
     obtain ⟨tm, df⟩ := a
     have hdf : df = [] := hdf
     subst hdf
     have ho := Option.some.inj ho
     subst ho
     have hsz : tm.size = 34 := hsz
     have t9 : tm.getD 9 undef = .slice (some ad0) 3 d := hdep ⟨4, .data⟩ (by simp) (by rfl) (by decide) W (Below.refl _ W)
     clear hdep hfr
     go_simp
     exact hK _ W (Below.refl _ W) (fun W9 hb => rfl)
    case s6 =>
     intro o ho a W hS hsz hdf hfr hdep K hK
     obtain ⟨tm, df⟩ := a
     have hdf : df = [] := hdf
     subst hdf
     have ho := Option.some.inj ho
     subst ho
     have hsz : tm.size = 34 := hsz
     have t10 : tm.getD 10 undef = .pointer (some (ad0.add 1)) := hdep ⟨5, .data⟩ (by simp) (by rfl) (by decide) W (Below.refl _ W)
     have cz : W.cell? { block := ad0.block, off := ad0.off + 1 } = some (.int .i64 (x1 : Int)) := by have h9 := HC1.out W hS; simpa [Addr.add] using h9
     clear hdep hfr
     go_simp
     exact hK _ W (Below.refl _ W) (fun W9 hb => rfl)
    case s7 =>
     intro o ho a W hS hsz hdf hfr hdep K hK
     obtain ⟨tm, df⟩ := a
     have hdf : df = [] := hdf
     subst hdf
     have ho := Option.some.inj ho
     subst ho
     have hsz : tm.size = 34 := hsz
     have t5 : tm.getD 5 undef = .slice A n c := hdep ⟨0, .data⟩ (by simp) (by rfl) (by decide) W (Below.refl _ W)
     have t8 : tm.getD 8 undef = .int .i64 (x0 : Int) := hdep ⟨3, .data⟩ (by simp) (by rfl) (by decide) W (Below.refl _ W)
     have t11 : tm.getD 11 undef = .int .i64 (x1 : Int) := hdep ⟨6, .data⟩ (by simp) (by rfl) (by decide) W (Below.refl _ W)
     clear hdep hfr
     go_simp
     refine (HL0.out W hS).mono ?_
     rintro e W9 ⟨rfl, rfl⟩
     exact hK _ _ (Below.refl _ _) (fun W8 hc => rfl)
    case s8 =>
     intro o ho a W hS hsz hdf hfr hdep K hK
     obtain ⟨tm, df⟩ := a
     have hdf : df = [] := hdf
     subst hdf
     have ho := Option.some.inj ho
     subst ho
     have hsz : tm.size = 34 := hsz
     have t12 : tm.getD 12 undef = .bool true := hdep ⟨7, .data⟩ (by simp) (by rfl) (by decide) W (Below.refl _ W)
     clear hdep hfr
     go_simp
     exact hK _ W (Below.refl _ W) (fun W9 hb => rfl)
    case s9 =>
     intro o ho a W hS hsz hdf hfr hdep K hK
     obtain ⟨tm, df⟩ := a
     have hdf : df = [] := hdf
     subst hdf
     have ho := Option.some.inj ho
     subst ho
     have hsz : tm.size = 34 := hsz
     have t0 : tm.getD 0 undef = .slice A n c := hfr 0 (by decide)
     have t13 : tm.getD 13 undef = .bool true := hdep ⟨8, .guard⟩ (by simp) (by rfl) (by decide) W (Below.refl _ W)
     have u13 : tm[13]'(by omega) = .bool true := getq t13 (by omega)
     clear hdep hfr
     go_simp
     exact hK _ W (Below.refl _ W) (fun W9 hb => rfl)
    case s10 =>
     intro o ho a W hS hsz hdf hfr hdep K hK
     obtain ⟨tm, df⟩ := a
     have hdf : df = [] := hdf
     subst hdf
     have ho := Option.some.inj ho
     subst ho
     have hsz : tm.size = 34 := hsz
     have t1 : tm.getD 1 undef = .slice (some ad0) 3 d := hfr 1 (by decide)
     have t13 : tm.getD 13 undef = .bool true := hdep ⟨8, .guard⟩ (by simp) (by rfl) (by decide) W (Below.refl _ W)
     have u13 : tm[13]'(by omega) = .bool true := getq t13 (by omega)
     clear hdep hfr
     go_simp
     exact hK _ W (Below.refl _ W) (fun W9 hb => rfl)
    case s11 =>
     intro o ho a W hS hsz hdf hfr hdep K hK
     obtain ⟨tm, df⟩ := a
     have hdf : df = [] := hdf
     subst hdf
     have ho := Option.some.inj ho
     subst ho
     have hsz : tm.size = 34 := hsz
     have t15 : tm.getD 15 undef = .slice (some ad0) 3 d := hdep ⟨10, .data⟩ (by simp) (by rfl) (by decide) W (Below.refl _ W)
     have t13 : tm.getD 13 undef = .bool true := hdep ⟨8, .guard⟩ (by simp) (by rfl) (by decide) W (Below.refl _ W)
     have u13 : tm[13]'(by omega) = .bool true := getq t13 (by omega)
     clear hdep hfr
     go_simp
     exact hK _ W (Below.refl _ W) (fun W9 hb => rfl)
    case s12 =>
     intro o ho a W hS hsz hdf hfr hdep K hK
     obtain ⟨tm, df⟩ := a
     have hdf : df = [] := hdf
     subst hdf
     have ho := Option.some.inj ho
     subst ho
     have hsz : tm.size = 34 := hsz
     have t16 : tm.getD 16 undef = .pointer (some ad0) := hdep ⟨11, .data⟩ (by simp) (by rfl) (by decide) W (Below.refl _ W)
     have t13 : tm.getD 13 undef = .bool true := hdep ⟨8, .guard⟩ (by simp) (by rfl) (by decide) W (Below.refl _ W)
     have u13 : tm[13]'(by omega) = .bool true := getq t13 (by omega)
     have cz := HC0.out W hS
     rw [add_nil] at cz
     clear hdep hfr
     go_simp
     exact hK _ W (Below.refl _ W) (fun W9 hb => rfl)
    case s13 =>
     intro o ho a W hS hsz hdf hfr hdep K hK
     obtain ⟨tm, df⟩ := a
     have hdf : df = [] := hdf
     subst hdf
     have ho := Option.some.inj ho
     subst ho
     have hsz : tm.size = 34 := hsz
     have t1 : tm.getD 1 undef = .slice (some ad0) 3 d := hfr 1 (by decide)
     have t13 : tm.getD 13 undef = .bool true := hdep ⟨8, .guard⟩ (by simp) (by rfl) (by decide) W (Below.refl _ W)
     have u13 : tm[13]'(by omega) = .bool true := getq t13 (by omega)
     clear hdep hfr
     go_simp
     exact hK _ W (Below.refl _ W) (fun W9 hb => rfl)
    case s14 =>
     intro o ho a W hS hsz hdf hfr hdep K hK
     obtain ⟨tm, df⟩ := a
     have hdf : df = [] := hdf
     subst hdf
     have ho := Option.some.inj ho
     subst ho
     have hsz : tm.size = 34 := hsz
     have t18 : tm.getD 18 undef = .slice (some ad0) 3 d := hdep ⟨13, .data⟩ (by simp) (by rfl) (by decide) W (Below.refl _ W)
     have t13 : tm.getD 13 undef = .bool true := hdep ⟨8, .guard⟩ (by simp) (by rfl) (by decide) W (Below.refl _ W)
     have u13 : tm[13]'(by omega) = .bool true := getq t13 (by omega)
     clear hdep hfr
     go_simp
     exact hK _ W (Below.refl _ W) (fun W9 hb => rfl)
    case s15 =>
     intro o ho a W hS hsz hdf hfr hdep K hK
     obtain ⟨tm, df⟩ := a
     have hdf : df = [] := hdf
     subst hdf
     have ho := Option.some.inj ho
     subst ho
     have hsz : tm.size = 34 := hsz
     have t19 : tm.getD 19 undef = .pointer (some (ad0.add 2)) := hdep ⟨14, .data⟩ (by simp) (by rfl) (by decide) W (Below.refl _ W)
     have t13 : tm.getD 13 undef = .bool true := hdep ⟨8, .guard⟩ (by simp) (by rfl) (by decide) W (Below.refl _ W)
     have u13 : tm[13]'(by omega) = .bool true := getq t13 (by omega)
     have cz : W.cell? { block := ad0.block, off := ad0.off + 2 } = some (.int .i64 (x2 : Int)) := by have h9 := HC2.out W hS; simpa [Addr.add] using h9
     clear hdep hfr
     go_simp
     exact hK _ W (Below.refl _ W) (fun W9 hb => rfl)
    case s16 =>
     intro o ho a W hS hsz hdf hfr hdep K hK
     obtain ⟨tm, df⟩ := a
     have hdf : df = [] := hdf
     subst hdf
     have ho := Option.some.inj ho
     subst ho
     have hsz : tm.size = 34 := hsz
     have t14 : tm.getD 14 undef = .slice A n c := hdep ⟨9, .data⟩ (by simp) (by rfl) (by decide) W (Below.refl _ W)
     have t17 : tm.getD 17 undef = .int .i64 (x0 : Int) := hdep ⟨12, .data⟩ (by simp) (by rfl) (by decide) W (Below.refl _ W)
     have t20 : tm.getD 20 undef = .int .i64 (x2 : Int) := hdep ⟨15, .data⟩ (by simp) (by rfl) (by decide) W (Below.refl _ W)
     have t13 : tm.getD 13 undef = .bool true := hdep ⟨8, .guard⟩ (by simp) (by rfl) (by decide) W (Below.refl _ W)
     have u13 : tm[13]'(by omega) = .bool true := getq t13 (by omega)
     clear hdep hfr
     go_simp
     refine (HL1.out W hS).mono ?_
     rintro e W9 ⟨rfl, rfl⟩
     exact hK _ _ (Below.refl _ _) (fun W8 hc => rfl)
    case s17 =>
     intro o ho a W hS hsz hdf hfr hdep K hK
     obtain ⟨tm, df⟩ := a
     have hdf : df = [] := hdf
     subst hdf
     have ho := Option.some.inj ho
     subst ho
     have hsz : tm.size = 34 := hsz
     have t13 : tm.getD 13 undef = .bool true := hdep ⟨8, .data⟩ (by simp) (by rfl) (by decide) W (Below.refl _ W)
     have t21 : tm.getD 21 undef = .bool true := hdep ⟨16, .data⟩ (by simp) (by rfl) (by decide) W (Below.refl _ W)
     clear hdep hfr
     go_simp
     exact hK _ W (Below.refl _ W) (fun W9 hb => rfl)
    case s18 =>
     intro o ho a W hS hsz hdf hfr hdep K hK
     obtain ⟨tm, df⟩ := a
     have hdf : df = [] := hdf
     subst hdf
     have ho := Option.some.inj ho
     subst ho
     have hsz : tm.size = 34 := hsz
     have t22 : tm.getD 22 undef = .bool true := hdep ⟨17, .data⟩ (by simp) (by rfl) (by decide) W (Below.refl _ W)
     clear hdep hfr
     go_simp
     exact hK _ W (Below.refl _ W) (fun W9 hb => rfl)
    case s19 =>
     intro o ho a W hS hsz hdf hfr hdep K hK
     obtain ⟨tm, df⟩ := a
     have hdf : df = [] := hdf
     subst hdf
     have ho := Option.some.inj ho
     subst ho
     have hsz : tm.size = 34 := hsz
     have t0 : tm.getD 0 undef = .slice A n c := hfr 0 (by decide)
     have t23 : tm.getD 23 undef = .bool true := hdep ⟨18, .guard⟩ (by simp) (by rfl) (by decide) W (Below.refl _ W)
     have u23 : tm[23]'(by omega) = .bool true := getq t23 (by omega)
     clear hdep hfr
     go_simp
     exact hK _ W (Below.refl _ W) (fun W9 hb => rfl)
    case s20 =>
     intro o ho a W hS hsz hdf hfr hdep K hK
     obtain ⟨tm, df⟩ := a
     have hdf : df = [] := hdf
     subst hdf
     have ho := Option.some.inj ho
     subst ho
     have hsz : tm.size = 34 := hsz
     have t1 : tm.getD 1 undef = .slice (some ad0) 3 d := hfr 1 (by decide)
     have t23 : tm.getD 23 undef = .bool true := hdep ⟨18, .guard⟩ (by simp) (by rfl) (by decide) W (Below.refl _ W)
     have u23 : tm[23]'(by omega) = .bool true := getq t23 (by omega)
     clear hdep hfr
     go_simp
     exact hK _ W (Below.refl _ W) (fun W9 hb => rfl)
    case s21 =>
     intro o ho a W hS hsz hdf hfr hdep K hK
     obtain ⟨tm, df⟩ := a
     have hdf : df = [] := hdf
     subst hdf
     have ho := Option.some.inj ho
     subst ho
     have hsz : tm.size = 34 := hsz
     have t25 : tm.getD 25 undef = .slice (some ad0) 3 d := hdep ⟨20, .data⟩ (by simp) (by rfl) (by decide) W (Below.refl _ W)
     have t23 : tm.getD 23 undef = .bool true := hdep ⟨18, .guard⟩ (by simp) (by rfl) (by decide) W (Below.refl _ W)
     have u23 : tm[23]'(by omega) = .bool true := getq t23 (by omega)
     clear hdep hfr
     go_simp
     exact hK _ W (Below.refl _ W) (fun W9 hb => rfl)
    case s22 =>
     intro o ho a W hS hsz hdf hfr hdep K hK
     obtain ⟨tm, df⟩ := a
     have hdf : df = [] := hdf
     subst hdf
     have ho := Option.some.inj ho
     subst ho
     have hsz : tm.size = 34 := hsz
     have t26 : tm.getD 26 undef = .pointer (some (ad0.add 1)) := hdep ⟨21, .data⟩ (by simp) (by rfl) (by decide) W (Below.refl _ W)
     have t23 : tm.getD 23 undef = .bool true := hdep ⟨18, .guard⟩ (by simp) (by rfl) (by decide) W (Below.refl _ W)
     have u23 : tm[23]'(by omega) = .bool true := getq t23 (by omega)
     have cz : W.cell? { block := ad0.block, off := ad0.off + 1 } = some (.int .i64 (x1 : Int)) := by have h9 := HC1.out W hS; simpa [Addr.add] using h9
     clear hdep hfr
     go_simp
     exact hK _ W (Below.refl _ W) (fun W9 hb => rfl)
    case s23 =>
     intro o ho a W hS hsz hdf hfr hdep K hK
     obtain ⟨tm, df⟩ := a
     have hdf : df = [] := hdf
     subst hdf
     have ho := Option.some.inj ho
     subst ho
     have hsz : tm.size = 34 := hsz
     have t1 : tm.getD 1 undef = .slice (some ad0) 3 d := hfr 1 (by decide)
     have t23 : tm.getD 23 undef = .bool true := hdep ⟨18, .guard⟩ (by simp) (by rfl) (by decide) W (Below.refl _ W)
     have u23 : tm[23]'(by omega) = .bool true := getq t23 (by omega)
     clear hdep hfr
     go_simp
     exact hK _ W (Below.refl _ W) (fun W9 hb => rfl)
    case s24 =>
     intro o ho a W hS hsz hdf hfr hdep K hK
     obtain ⟨tm, df⟩ := a
     have hdf : df = [] := hdf
     subst hdf
     have ho := Option.some.inj ho
     subst ho
     have hsz : tm.size = 34 := hsz
     have t28 : tm.getD 28 undef = .slice (some ad0) 3 d := hdep ⟨23, .data⟩ (by simp) (by rfl) (by decide) W (Below.refl _ W)
     have t23 : tm.getD 23 undef = .bool true := hdep ⟨18, .guard⟩ (by simp) (by rfl) (by decide) W (Below.refl _ W)
     have u23 : tm[23]'(by omega) = .bool true := getq t23 (by omega)
     clear hdep hfr
     go_simp
     exact hK _ W (Below.refl _ W) (fun W9 hb => rfl)
    case s25 =>
     intro o ho a W hS hsz hdf hfr hdep K hK
     obtain ⟨tm, df⟩ := a
     have hdf : df = [] := hdf
     subst hdf
     have ho := Option.some.inj ho
     subst ho
     have hsz : tm.size = 34 := hsz
     have t29 : tm.getD 29 undef = .pointer (some (ad0.add 2)) := hdep ⟨24, .data⟩ (by simp) (by rfl) (by decide) W (Below.refl _ W)
     have t23 : tm.getD 23 undef = .bool true := hdep ⟨18, .guard⟩ (by simp) (by rfl) (by decide) W (Below.refl _ W)
     have u23 : tm[23]'(by omega) = .bool true := getq t23 (by omega)
     have cz : W.cell? { block := ad0.block, off := ad0.off + 2 } = some (.int .i64 (x2 : Int)) := by have h9 := HC2.out W hS; simpa [Addr.add] using h9
     clear hdep hfr
     go_simp
     exact hK _ W (Below.refl _ W) (fun W9 hb => rfl)
    case s26 =>
     intro o ho a W hS hsz hdf hfr hdep K hK
     obtain ⟨tm, df⟩ := a
     have hdf : df = [] := hdf
     subst hdf
     have ho := Option.some.inj ho
     subst ho
     have hsz : tm.size = 34 := hsz
     have t24 : tm.getD 24 undef = .slice A n c := hdep ⟨19, .data⟩ (by simp) (by rfl) (by decide) W (Below.refl _ W)
     have t27 : tm.getD 27 undef = .int .i64 (x1 : Int) := hdep ⟨22, .data⟩ (by simp) (by rfl) (by decide) W (Below.refl _ W)
     have t30 : tm.getD 30 undef = .int .i64 (x2 : Int) := hdep ⟨25, .data⟩ (by simp) (by rfl) (by decide) W (Below.refl _ W)
     have t23 : tm.getD 23 undef = .bool true := hdep ⟨18, .guard⟩ (by simp) (by rfl) (by decide) W (Below.refl _ W)
     have u23 : tm[23]'(by omega) = .bool true := getq t23 (by omega)
     clear hdep hfr
     go_simp
     refine (HL2.out W hS).mono ?_
     rintro e W9 ⟨rfl, rfl⟩
     exact hK _ _ (Below.refl _ _) (fun W8 hc => rfl)
    case s27 =>
     intro o ho a W hS hsz hdf hfr hdep K hK
     obtain ⟨tm, df⟩ := a
     have hdf : df = [] := hdf
     subst hdf
     have ho := Option.some.inj ho
     subst ho
     have hsz : tm.size = 34 := hsz
     have t31 : tm.getD 31 undef = .bool b2 := hdep ⟨26, .data⟩ (by simp) (by rfl) (by decide) W (Below.refl _ W)
     have t23 : tm.getD 23 undef = .bool true := hdep ⟨18, .guard⟩ (by simp) (by rfl) (by decide) W (Below.refl _ W)
     have u23 : tm[23]'(by omega) = .bool true := getq t23 (by omega)
     clear hdep hfr
     go_simp
     exact hK _ W (Below.refl _ W) (fun W9 hb => rfl)
    case s28 =>
     intro o ho a W hS hsz hdf hfr hdep K hK
     obtain ⟨tm, df⟩ := a
     have hdf : df = [] := hdf
     subst hdf
     have ho := Option.some.inj ho
     subst ho
     have hsz : tm.size = 34 := hsz
     have t23 : tm.getD 23 undef = .bool true := hdep ⟨18, .data⟩ (by simp) (by rfl) (by decide) W (Below.refl _ W)
     have t32 : tm.getD 32 undef = .bool (!b2) := hdep ⟨27, .data⟩ (by simp) (by rfl) (by decide) W (Below.refl _ W)
     clear hdep hfr
     go_simp
     exact hK _ W (Below.refl _ W) (fun W9 hb => rfl)
    case s29 =>
     intro o ho a W hS hsz hdf hfr hdep K hK
     obtain ⟨tm, df⟩ := a
     have hdf : df = [] := hdf
     subst hdf
     have ho := Option.some.inj ho
     subst ho
     have hsz : tm.size = 34 := hsz
     have t33 : tm.getD 33 undef = .bool (!b2) := hdep ⟨28, .data⟩ (by simp) (by rfl) (by decide) W (Below.refl _ W)
     clear hdep hfr
     go_simp
     exact hK _ W (Below.refl _ W) (fun W9 hb => rfl)
   case fin =>
    intro W hS
    simp only [fillD]
    go_simp
    go_wp2
    go_ret
    exact ⟨rfl, hS⟩
end Go.Proofs.YtjpmhbnikoggaaaGreatDoor
