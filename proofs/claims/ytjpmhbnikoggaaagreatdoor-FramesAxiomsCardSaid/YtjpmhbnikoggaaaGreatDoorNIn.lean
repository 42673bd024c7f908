/- Layer 6: texts joined: Fr16 Fr17 Fr18 Fr19. -/
import Derived.Test.YtjpmhbnikoggaaaGreatDoorNIm
import Derived.WalkSpells
/- Layer 15: Counter by the program. -/
namespace Go.Proofs.YtjpmhbnikoggaaaGreatDoor
open Go.RowKit Go.Proofs.Ws
set_option maxRecDepth 100000
/-- what Counter returns -/
def CntV (n : Nat) (p : Int) (l : List Nat) (a s r : Int) : Prop :=
 (relErr n l ≠ 0 ∧ a = 0 ∧ s = 0 ∧ r = relErr n l) ∨ (relErr n l = 0 ∧ (p < 1 ∨ 5 < p) ∧ a = 0 ∧ s = 0 ∧ r = 1) ∨ (relErr n l = 0 ∧ (1 ≤ p ∧ p ≤ 5) ∧ HasP n p l ∧ a = 0 ∧ s = 0 ∧ r = 6) ∨
 (relErr n l = 0 ∧ (1 ≤ p ∧ p ≤ 5) ∧ ¬ HasP n p l ∧ ∃ x, WitP n p l x ∧ a = ((x.getD 0 0 : Nat) : Int) ∧ s = ((setV p l x : Nat) : Int) ∧ r = 0)
def GivesC (n : Nat) (p : Int) (l : List Nat) (w : World) (e : Ending) (w' : World) : Prop :=
 (∃ a s r, e = .returned (.tuple #[.int .i64 a, .int .u64 s, .int .i64 r]) ∧ CntV n p l a s r) ∧ Below w.heap.size w w'
section
variable (l : List Nat) (A : Option Addr) (n c : Nat) (w : World) (hR : Reads w w.heap.size 1 A n (us l)) (hw : Words l) (hm : n ≤ maxLen) (hT : Tab w)
include hR hw hm
theorem cntBad_any (p : Int) (h0 : relErr n l ≠ 0) : Calls Tryz.prog 17 #[.slice A n c, .int .i64 p] w (GivesC n p l w) := by
 unfold GivesC
 have HC := Lib.hid (fun W (hb : Below w.heap.size w W) => check_any n l A n c W.heap.size W ((hR.below hb).more hb.size) hw hm)
 have HZ := Lib.hid h0
 have h1 : (relErr n l == 0) = false := by rw [beq_eq_false_iff_ne]; exact h0
 obtain ⟨r, hr⟩ : ∃ r, relErr n l = r := ⟨_, rfl⟩
 have HE := Lib.hid hr
 rw [hr] at h1
 rw [hr] at HC
 clear hR hw hm h0 hr
 go_enter Tryz.func17, Tryz.ntmps17
 go_wp2_with fail
 refine (HC.out _ (Below.refl _ w)).mono ?_
 rintro e w3 ⟨rfl, rfl⟩
 go_wp2
 go_ret3
 exact ⟨⟨0, 0, r, rfl, .inl ⟨HZ.out, rfl, rfl, HE.out.symm⟩⟩, Below.refl _ _⟩
theorem cntNo_any (p : Int) (h0 : relErr n l = 0) (hp : p < 1 ∨ 5 < p) : Calls Tryz.prog 17 #[.slice A n c, .int .i64 p] w (GivesC n p l w) := by
 unfold GivesC
 have HC := Lib.hid (fun W (hb : Below w.heap.size w W) => check_any n l A n c W.heap.size W ((hR.below hb).more hb.size) hw hm)
 have HZ := Lib.hid h0
 have HP := Lib.hid hp
 have HD := Lib.hid (fun W => cond0_any p hp W)
 rw [h0] at HC
 clear hR hw hm h0 hp
 go_enter Tryz.func17, Tryz.ntmps17
 go_wp2_with fail
 refine (HC.out _ (Below.refl _ w)).mono ?_
 rintro e w3 ⟨rfl, rfl⟩
 go_wp2_with fail
 refine (HD.out _).mono ?_
 rintro e w3 ⟨rfl, hb⟩
 have HB := Lib.hid hb
 clear hb
 go_wp2
 go_ret3
 exact ⟨⟨0, 0, 1, rfl, .inr (.inl ⟨HZ.out, HP.out, rfl, rfl, rfl⟩)⟩, HB.out.alloc HB.out.size _⟩
include hT
set_option maxHeartbeats 8000000 in
theorem cnt1_any (h0 : relErr n l = 0) : Calls Tryz.prog 17 #[.slice A n c, .int .i64 1] w (GivesC n 1 l w) := by
 unfold GivesC
 have hl := hR.word_len
 have hn : n ≤ 64 := relErr_zero h0
 have h1 : ¬ HasQ n l 1 → 1 ≤ n := fun hq => by
  rcases Nat.eq_zero_or_pos n with e | e
  ·subst e; exact absurd (hasQ_empty hl ⟨by decide, by decide⟩) hq
  ·exact e
 have HC := Lib.hid (fun W (hb : Below w.heap.size w W) => check_any n l A n c W.heap.size W ((hR.below hb).more hb.size) hw hm)
 have HD := Lib.hid (fun W => cond1_any W)
 have HW : Hid (∀ (W : World) (fa fs : Fn) (ca cb cs ct : Array Value), Below w.heap.size w W → Calls Tryz.prog 50 #[.agg #[.int .i64 1, .func fa ca cb, .int .i64 1, .func (.func 92) #[] #[], .func fs cs ct], .slice A n c] W (WitN n 1 l W)) :=
  Lib.hid (fun W fa fs ca cb cs ct hb => (wit1_any l A n c fa fs ca cb cs ct W ((hR.below hb).more hb.size) hw h1 hn (hT.below hb)).mono fun e w' h => h.fix h0 hl ⟨by decide, by decide⟩)
 have HR := Lib.hid (fun W (hb : Below w.heap.size w W) => (hR.below hb).more hb.size)
 have HN := Lib.hid hn
 have HZ := Lib.hid h0
 rw [h0] at HC
 unfold WitN at HW
 have qn : ∀ (w : World) (a : Option Addr) (n c n' c' : Nat), (binOp .eql 28 (.slice a n c) (.slice none n' c')).run Tryz.prog w = .ok (.bool a.isNone) w := fun w a n c n' c' => Lib.run_eql_slice_nil w _ _ a n c n' c' Tryz.underlying28
 clear hR hw hm hT h0 h1 hl hn
 go_enter Tryz.func17, Tryz.ntmps17
 go_wp2_with fail
 refine (HC.out _ (Below.refl _ w)).mono ?_
 rintro e w3 ⟨rfl, rfl⟩
 go_wp2_with fail
 refine (HD.out _).mono ?_
 rintro e w1 ⟨rfl, hb⟩
 have HB := Lib.hid hb
 clear hb
 have HB2 := Lib.hid (HB.out.alloc HB.out.size (.cells #[.int .i64 1, .func (.func 91) #[] #[.pointer (some ⟨w.heap.size + 1 + 1 + 1, 0, none⟩), .pointer (some ⟨w.heap.size + 1, 0, none⟩), .pointer (some ⟨w.heap.size + 1 + 1, 0, none⟩)], .int .i64 1, .func (.func 92) #[] #[], .func (.func 93) #[] #[]] 72))
 have KB := Lib.hid (heap_alloc_new w1 (.cells #[.int .i64 1, .func (.func 91) #[] #[.pointer (some ⟨w.heap.size + 1 + 1 + 1, 0, none⟩), .pointer (some ⟨w.heap.size + 1, 0, none⟩), .pointer (some ⟨w.heap.size + 1 + 1, 0, none⟩)], .int .i64 1, .func (.func 92) #[] #[], .func (.func 93) #[] #[]] 72))
 go_wp2_with fail
 refine (HW.out _ _ _ _ _ _ _ HB2.out).mono ?_
 rintro e w3 ⟨h1, hb⟩
 have HB3 := Lib.hid (HB2.out.trans (hb.mono HB2.out.size))
 have KB3 := Lib.hid ((hb.block _ (by simp)).trans KB.out)
 have HSZ : Hid ((w1.alloc (.cells #[.int .i64 1, .func (.func 91) #[] #[.pointer (some ⟨w.heap.size + 1 + 1 + 1, 0, none⟩), .pointer (some ⟨w.heap.size + 1, 0, none⟩), .pointer (some ⟨w.heap.size + 1 + 1, 0, none⟩)], .int .i64 1, .func (.func 92) #[] #[], .func (.func 93) #[] #[]] 72)).heap.size = w1.heap.size + 1) := Lib.hid (by simp)
 clear hb
 rcases h1 with ⟨hq, rfl⟩ | ⟨g, c3, x, hx, hq, rfl, hg, hh⟩
 ·have HQ := Lib.hid hq
  clear hq
  go_wp2
  go_ret3
  exact ⟨⟨0, 0, 6, rfl, .inr (.inr (.inl ⟨HZ.out, ⟨by decide, by decide⟩, HQ.out.2, rfl, rfl, rfl⟩))⟩, HB3.out⟩
 ·have HXW := Lib.hid hx
  have HNQ : Hid (¬ HasP n 1 l) := Lib.hid (fun h => hq ⟨HZ.out, h⟩)
  have HHN := Lib.hid hh
  have HG := Lib.hid hg
  have hlp : lenP 1 = 1 := rfl
  rw [hlp]
  have c0 : ∀ W, Below w3.heap.size w3 W → W.cell? ⟨g, 0, none⟩ = some (.int .i64 ((x.getD 0 0 : Nat) : Int)) := fun W hb => (hb.cell (p := ⟨g, 0, none⟩) HHN.out.lt).trans (HHN.out.cell 0 (by rw [hx.dig.1]; decide))
  have k4 : ∀ W, Below w3.heap.size w3 W → W.cell? ⟨w1.heap.size, 4, none⟩ = some (.func (.func 93) #[] #[]) := fun W hb => (hb.cell (p := ⟨w1.heap.size, 4, none⟩) (Array.getElem?_eq_some_iff.1 KB3.out).1).trans ((Lib.cell_of_heap KB3.out 4).trans rfl)
  have HC0 := Lib.hid c0
  have HK4 := Lib.hid k4
  have HRD : Hid (∀ W, Below w3.heap.size w3 W → Reads W W.heap.size 1 (some ⟨g, 0, none⟩) 1 (iv x)) := Lib.hid (fun W hb => by
   have h := (hh.reads.below hb).more hb.size
   rwa [hx.dig.1] at h)
  have hd0 : x.getD 0 0 < n := hx.dig.at_ (k := 0) (by decide)
  have HST : Hid (∀ W, Below w3.heap.size w3 W → Calls Tryz.prog 93 #[.slice A n c, .slice (some ⟨g, 0, none⟩) 1 c3] W fun e w' => e = .returned (.int .u64 ((setV 1 l x : Nat) : Int)) ∧ W = w') :=
   Lib.hid (fun W hb => (set1_any _ _ W))
  clear hx hq hh hg hlp c0 k4 HW hd0
  generalize hx0 : x.getD 0 0 = x0 at *
  generalize hsv : setV 1 l x = sv at *
  have HX0 := Lib.hid hx0
  have HSV := Lib.hid hsv
  clear hx0 hsv
  go_wp2
  refine wp_region_constD [.slice (some ⟨g, 0, none⟩) 1 c3, .pointer (some ⟨g, 0, none⟩), .int .i64 (x0 : Int), .pointer (some ⟨w1.heap.size, 4, none⟩), .func (.func 93) #[] #[], .slice A n c, .slice (some ⟨g, 0, none⟩) 1 c3, .int .u64 (sv : Int), .int .i64 (x0 : Int), .int .u64 (sv : Int), .int .i64 0] [29, 30, 31, 32, 33, 34, 35, 36, 4, 5, 6] (fun W => Below w3.heap.size w3 W) (fun W W' => Below W.heap.size W W') 11 37 rfl rfl rfl rfl (by decide) (by decide) (by kernel_rfl) (by kernel_rfl) (by kernel_rfl) (fun W => Below.refl _ W) (fun W1 W2 W3 h1 h2 => h1.trans (h2.mono h1.size)) (fun W W' h h2 => h.trans (h2.mono h.size)) (Below.refl _ w3).drew ?hop ?fin
  case hop =>
   refine (lt_more (lt_more (lt_more (lt_more (lt_more (lt_more (lt_more (lt_more (lt_more (lt_more (lt_more (lt_none _) ?s0) ?s1) ?s2) ?s3) ?s4) ?s5) ?s6) ?s7) ?s8) ?s9) ?s10)
   case s0 =>
    intro o ho a W hS hsz hdf hfr hdep K hK
    obtain ⟨tm, df⟩ := a
    have hdf : df = [] := hdf
    subst hdf
    have ho := Option.some.inj ho
    subst ho
    have hsz : tm.size = 37 := hsz
    have t9 : tm.getD 9 undef = .slice (some ⟨g, 0, none⟩) 1 c3 := hfr 9 (by decide)
    clear hdep hfr
    go_simp
    exact hK _ W (Below.refl _ W) (fun W9 hb => rfl)
   case s1 =>
    intro o ho a W hS hsz hdf hfr hdep K hK
    obtain ⟨tm, df⟩ := a
    have hdf : df = [] := hdf
    subst hdf
    have ho := Option.some.inj ho
    subst ho
    have hsz : tm.size = 37 := hsz
    have t29 : tm.getD 29 undef = .slice (some ⟨g, 0, none⟩) 1 c3 := hdep ⟨0, .data⟩ (by simp) (by rfl) (by decide) W (Below.refl _ W)
    clear hdep hfr
    go_simp
    exact hK _ W (Below.refl _ W) (fun W9 hb => rfl)
   case s2 =>
    intro o ho a W hS hsz hdf hfr hdep K hK
    obtain ⟨tm, df⟩ := a
    have hdf : df = [] := hdf
    subst hdf
    have ho := Option.some.inj ho
    subst ho
    have hsz : tm.size = 37 := hsz
    have t30 : tm.getD 30 undef = .pointer (some ⟨g, 0, none⟩) := hdep ⟨1, .data⟩ (by simp) (by rfl) (by decide) W (Below.refl _ W)
    have cz := HC0.out W hS
    clear hdep hfr
    go_simp
    exact hK _ W (Below.refl _ W) (fun W9 hb => rfl)
   case s3 =>
    intro o ho a W hS hsz hdf hfr hdep K hK
    obtain ⟨tm, df⟩ := a
    have hdf : df = [] := hdf
    subst hdf
    have ho := Option.some.inj ho
    subst ho
    have hsz : tm.size = 37 := hsz
    have t7 : tm.getD 7 undef = .pointer (some ⟨w1.heap.size, 0, none⟩) := hfr 7 (by decide)
    clear hdep hfr
    go_simp
    exact hK _ W (Below.refl _ W) (fun W9 hb => rfl)
   case s4 =>
    intro o ho a W hS hsz hdf hfr hdep K hK
    obtain ⟨tm, df⟩ := a
    have hdf : df = [] := hdf
    subst hdf
    have ho := Option.some.inj ho
    subst ho
    have hsz : tm.size = 37 := hsz
    have t32 : tm.getD 32 undef = .pointer (some ⟨w1.heap.size, 4, none⟩) := hdep ⟨3, .data⟩ (by simp) (by rfl) (by decide) W (Below.refl _ W)
    have cz := HK4.out W hS
    clear hdep hfr
    go_simp
    exact hK _ W (Below.refl _ W) (fun W9 hb => rfl)
   case s5 =>
    intro o ho a W hS hsz hdf hfr hdep K hK
    obtain ⟨tm, df⟩ := a
    have hdf : df = [] := hdf
    subst hdf
    have ho := Option.some.inj ho
    subst ho
    have hsz : tm.size = 37 := hsz
    have t0 : tm.getD 0 undef = .slice A n c := hfr 0 (by decide)
    clear hdep hfr
    go_simp
    exact hK _ W (Below.refl _ W) (fun W9 hb => rfl)
   case s6 =>
    intro o ho a W hS hsz hdf hfr hdep K hK
    obtain ⟨tm, df⟩ := a
    have hdf : df = [] := hdf
    subst hdf
    have ho := Option.some.inj ho
    subst ho
    have hsz : tm.size = 37 := hsz
    have t9 : tm.getD 9 undef = .slice (some ⟨g, 0, none⟩) 1 c3 := hfr 9 (by decide)
    clear hdep hfr
    go_simp
    exact hK _ W (Below.refl _ W) (fun W9 hb => rfl)
   case s7 =>
    intro o ho a W hS hsz hdf hfr hdep K hK
    obtain ⟨tm, df⟩ := a
    have hdf : df = [] := hdf
    subst hdf
    have ho := Option.some.inj ho
    subst ho
    have hsz : tm.size = 37 := hsz
    have t33 : tm.getD 33 undef = .func (.func 93) #[] #[] := hdep ⟨4, .data⟩ (by simp) (by rfl) (by decide) W (Below.refl _ W)
    have t34 : tm.getD 34 undef = .slice A n c := hdep ⟨5, .data⟩ (by simp) (by rfl) (by decide) W (Below.refl _ W)
    have t35 : tm.getD 35 undef = .slice (some ⟨g, 0, none⟩) 1 c3 := hdep ⟨6, .data⟩ (by simp) (by rfl) (by decide) W (Below.refl _ W)
    clear hdep hfr
    go_simp
    refine (HST.out W hS).mono ?_
    rintro e W9 ⟨rfl, rfl⟩
    exact hK _ _ (Below.refl _ _) (fun W8 hc => rfl)
   case s8 =>
    intro o ho a W hS hsz hdf hfr hdep K hK
    obtain ⟨tm, df⟩ := a
    have hdf : df = [] := hdf
    subst hdf
    have ho := Option.some.inj ho
    subst ho
    have hsz : tm.size = 37 := hsz
    have t31 : tm.getD 31 undef = .int .i64 (x0 : Int) := hdep ⟨2, .data⟩ (by simp) (by rfl) (by decide) W (Below.refl _ W)
    clear hdep hfr
    go_simp
    exact hK _ W (Below.refl _ W) (fun W9 hb => rfl)
   case s9 =>
    intro o ho a W hS hsz hdf hfr hdep K hK
    obtain ⟨tm, df⟩ := a
    have hdf : df = [] := hdf
    subst hdf
    have ho := Option.some.inj ho
    subst ho
    have hsz : tm.size = 37 := hsz
    have t36 : tm.getD 36 undef = .int .u64 (sv : Int) := hdep ⟨7, .data⟩ (by simp) (by rfl) (by decide) W (Below.refl _ W)
    clear hdep hfr
    go_simp
    exact hK _ W (Below.refl _ W) (fun W9 hb => rfl)
   case s10 =>
    intro o ho a W hS hsz hdf hfr hdep K hK
    obtain ⟨tm, df⟩ := a
    have hdf : df = [] := hdf
    subst hdf
    have ho := Option.some.inj ho
    subst ho
    have hsz : tm.size = 37 := hsz
    clear hdep hfr
    go_simp
    exact hK _ W (Below.refl _ W) (fun W9 hb => rfl)
  case fin =>
   intro W hS
   simp only [fillD]
   go_simp
   go_wp2
   go_ret3
   exact ⟨⟨_, _, _, rfl, .inr (.inr (.inr ⟨HZ.out, ⟨by decide, by decide⟩, HNQ.out, x, HXW.out, by rw [HX0.out], by rw [HSV.out], rfl⟩))⟩, HB3.out.trans (hS.mono HB3.out.size)⟩
set_option maxHeartbeats 8000000 in
theorem cnt2_any (h0 : relErr n l = 0) : Calls Tryz.prog 17 #[.slice A n c, .int .i64 2] w (GivesC n 2 l w) := by
 unfold GivesC
 have hl := hR.word_len
 have hn : n ≤ 64 := relErr_zero h0
 have h1 : ¬ HasQ n l 2 → 1 ≤ n := fun hq => by
  rcases Nat.eq_zero_or_pos n with e | e
  ·subst e; exact absurd (hasQ_empty hl ⟨by decide, by decide⟩) hq
  ·exact e
 have HC := Lib.hid (fun W (hb : Below w.heap.size w W) => check_any n l A n c W.heap.size W ((hR.below hb).more hb.size) hw hm)
 have HD := Lib.hid (fun W => cond2_any W)
 have HW : Hid (∀ (W : World) (fa fs : Fn) (ca cb cs ct : Array Value), Below w.heap.size w W → Calls Tryz.prog 50 #[.agg #[.int .i64 2, .func fa ca cb, .int .i64 1, .func (.func 95) #[] #[], .func fs cs ct], .slice A n c] W (WitN n 2 l W)) :=
  Lib.hid (fun W fa fs ca cb cs ct hb => (wit2_any l A n c fa fs ca cb cs ct W ((hR.below hb).more hb.size) hw h1 hn (hT.below hb)).mono fun e w' h => h.fix h0 hl ⟨by decide, by decide⟩)
 have HR := Lib.hid (fun W (hb : Below w.heap.size w W) => (hR.below hb).more hb.size)
 have HN := Lib.hid hn
 have HZ := Lib.hid h0
 rw [h0] at HC
 unfold WitN at HW
 have qn : ∀ (w : World) (a : Option Addr) (n c n' c' : Nat), (binOp .eql 28 (.slice a n c) (.slice none n' c')).run Tryz.prog w = .ok (.bool a.isNone) w := fun w a n c n' c' => Lib.run_eql_slice_nil w _ _ a n c n' c' Tryz.underlying28
 clear hR hw hm hT h0 h1 hl hn
 go_enter Tryz.func17, Tryz.ntmps17
 go_wp2_with fail
 refine (HC.out _ (Below.refl _ w)).mono ?_
 rintro e w3 ⟨rfl, rfl⟩
 go_wp2_with fail
 refine (HD.out _).mono ?_
 rintro e w1 ⟨rfl, hb⟩
 have HB := Lib.hid hb
 clear hb
 have HB2 := Lib.hid (HB.out.alloc HB.out.size (.cells #[.int .i64 2, .func (.func 94) #[] #[.pointer (some ⟨w.heap.size + 1 + 1 + 1, 0, none⟩), .pointer (some ⟨w.heap.size + 1, 0, none⟩)], .int .i64 1, .func (.func 95) #[] #[], .func (.func 97) #[] #[]] 72))
 have KB := Lib.hid (heap_alloc_new w1 (.cells #[.int .i64 2, .func (.func 94) #[] #[.pointer (some ⟨w.heap.size + 1 + 1 + 1, 0, none⟩), .pointer (some ⟨w.heap.size + 1, 0, none⟩)], .int .i64 1, .func (.func 95) #[] #[], .func (.func 97) #[] #[]] 72))
 go_wp2_with fail
 refine (HW.out _ _ _ _ _ _ _ HB2.out).mono ?_
 rintro e w3 ⟨h1, hb⟩
 have HB3 := Lib.hid (HB2.out.trans (hb.mono HB2.out.size))
 have KB3 := Lib.hid ((hb.block _ (by simp)).trans KB.out)
 have HSZ : Hid ((w1.alloc (.cells #[.int .i64 2, .func (.func 94) #[] #[.pointer (some ⟨w.heap.size + 1 + 1 + 1, 0, none⟩), .pointer (some ⟨w.heap.size + 1, 0, none⟩)], .int .i64 1, .func (.func 95) #[] #[], .func (.func 97) #[] #[]] 72)).heap.size = w1.heap.size + 1) := Lib.hid (by simp)
 clear hb
 rcases h1 with ⟨hq, rfl⟩ | ⟨g, c3, x, hx, hq, rfl, hg, hh⟩
 ·have HQ := Lib.hid hq
  clear hq
  go_wp2
  go_ret3
  exact ⟨⟨0, 0, 6, rfl, .inr (.inr (.inl ⟨HZ.out, ⟨by decide, by decide⟩, HQ.out.2, rfl, rfl, rfl⟩))⟩, HB3.out⟩
 ·have HXW := Lib.hid hx
  have HNQ : Hid (¬ HasP n 2 l) := Lib.hid (fun h => hq ⟨HZ.out, h⟩)
  have HHN := Lib.hid hh
  have HG := Lib.hid hg
  have hlp : lenP 2 = 1 := rfl
  rw [hlp]
  have c0 : ∀ W, Below w3.heap.size w3 W → W.cell? ⟨g, 0, none⟩ = some (.int .i64 ((x.getD 0 0 : Nat) : Int)) := fun W hb => (hb.cell (p := ⟨g, 0, none⟩) HHN.out.lt).trans (HHN.out.cell 0 (by rw [hx.dig.1]; decide))
  have k4 : ∀ W, Below w3.heap.size w3 W → W.cell? ⟨w1.heap.size, 4, none⟩ = some (.func (.func 97) #[] #[]) := fun W hb => (hb.cell (p := ⟨w1.heap.size, 4, none⟩) (Array.getElem?_eq_some_iff.1 KB3.out).1).trans ((Lib.cell_of_heap KB3.out 4).trans rfl)
  have HC0 := Lib.hid c0
  have HK4 := Lib.hid k4
  have HRD : Hid (∀ W, Below w3.heap.size w3 W → Reads W W.heap.size 1 (some ⟨g, 0, none⟩) 1 (iv x)) := Lib.hid (fun W hb => by
   have h := (hh.reads.below hb).more hb.size
   rwa [hx.dig.1] at h)
  have hd0 : x.getD 0 0 < n := hx.dig.at_ (k := 0) (by decide)
  have HST : Hid (∀ W, Below w3.heap.size w3 W → Calls Tryz.prog 97 #[.slice A n c, .slice (some ⟨g, 0, none⟩) 1 c3] W fun e w' => e = .returned (.int .u64 ((setV 2 l x : Nat) : Int)) ∧ W = w') :=
   Lib.hid (fun W hb => (set2_any l x A _ n c c3 1 W ((HR.out W (HB3.out.trans (hb.mono HB3.out.size)))) (HRD.out W hb) (by decide) hd0))
  clear hx hq hh hg hlp c0 k4 HW hd0
  generalize hx0 : x.getD 0 0 = x0 at *
  generalize hsv : setV 2 l x = sv at *
  have HX0 := Lib.hid hx0
  have HSV := Lib.hid hsv
  clear hx0 hsv
  go_wp2
  refine wp_region_constD [.slice (some ⟨g, 0, none⟩) 1 c3, .pointer (some ⟨g, 0, none⟩), .int .i64 (x0 : Int), .pointer (some ⟨w1.heap.size, 4, none⟩), .func (.func 97) #[] #[], .slice A n c, .slice (some ⟨g, 0, none⟩) 1 c3, .int .u64 (sv : Int), .int .i64 (x0 : Int), .int .u64 (sv : Int), .int .i64 0] [29, 30, 31, 32, 33, 34, 35, 36, 4, 5, 6] (fun W => Below w3.heap.size w3 W) (fun W W' => Below W.heap.size W W') 11 37 rfl rfl rfl rfl (by decide) (by decide) (by kernel_rfl) (by kernel_rfl) (by kernel_rfl) (fun W => Below.refl _ W) (fun W1 W2 W3 h1 h2 => h1.trans (h2.mono h1.size)) (fun W W' h h2 => h.trans (h2.mono h.size)) (Below.refl _ w3).drew ?hop ?fin
  case hop =>
   refine (lt_more (lt_more (lt_more (lt_more (lt_more (lt_more (lt_more (lt_more (lt_more (lt_more (lt_more (lt_none _) ?s0) ?s1) ?s2) ?s3) ?s4) ?s5) ?s6) ?s7) ?s8) ?s9) ?s10)
   case s0 =>
    intro o ho a W hS hsz hdf hfr hdep K hK
    obtain ⟨tm, df⟩ := a
    have hdf : df = [] := hdf
    subst hdf
    have ho := Option.some.inj ho
    subst ho
    have hsz : tm.size = 37 := hsz
    have t9 : tm.getD 9 undef = .slice (some ⟨g, 0, none⟩) 1 c3 := hfr 9 (by decide)
    clear hdep hfr
    go_simp
    exact hK _ W (Below.refl _ W) (fun W9 hb => rfl)
   case s1 =>
    intro o ho a W hS hsz hdf hfr hdep K hK
    obtain ⟨tm, df⟩ := a
    have hdf : df = [] := hdf
    subst hdf
    have ho := Option.some.inj ho
    subst ho
    have hsz : tm.size = 37 := hsz
    have t29 : tm.getD 29 undef = .slice (some ⟨g, 0, none⟩) 1 c3 := hdep ⟨0, .data⟩ (by simp) (by rfl) (by decide) W (Below.refl _ W)
    clear hdep hfr
    go_simp
    exact hK _ W (Below.refl _ W) (fun W9 hb => rfl)
   case s2 =>
    intro o ho a W hS hsz hdf hfr hdep K hK
    obtain ⟨tm, df⟩ := a
    have hdf : df = [] := hdf
    subst hdf
    have ho := Option.some.inj ho
    subst ho
    have hsz : tm.size = 37 := hsz
    have t30 : tm.getD 30 undef = .pointer (some ⟨g, 0, none⟩) := hdep ⟨1, .data⟩ (by simp) (by rfl) (by decide) W (Below.refl _ W)
    have cz := HC0.out W hS
    clear hdep hfr
    go_simp
    exact hK _ W (Below.refl _ W) (fun W9 hb => rfl)
   case s3 =>
    intro o ho a W hS hsz hdf hfr hdep K hK
    obtain ⟨tm, df⟩ := a
    have hdf : df = [] := hdf
    subst hdf
    have ho := Option.some.inj ho
    subst ho
    have hsz : tm.size = 37 := hsz
    have t7 : tm.getD 7 undef = .pointer (some ⟨w1.heap.size, 0, none⟩) := hfr 7 (by decide)
    clear hdep hfr
    go_simp
    exact hK _ W (Below.refl _ W) (fun W9 hb => rfl)
   case s4 =>
    intro o ho a W hS hsz hdf hfr hdep K hK
    obtain ⟨tm, df⟩ := a
    have hdf : df = [] := hdf
    subst hdf
    have ho := Option.some.inj ho
    subst ho
    have hsz : tm.size = 37 := hsz
    have t32 : tm.getD 32 undef = .pointer (some ⟨w1.heap.size, 4, none⟩) := hdep ⟨3, .data⟩ (by simp) (by rfl) (by decide) W (Below.refl _ W)
    have cz := HK4.out W hS
    clear hdep hfr
    go_simp
    exact hK _ W (Below.refl _ W) (fun W9 hb => rfl)
   case s5 =>
    intro o ho a W hS hsz hdf hfr hdep K hK
    obtain ⟨tm, df⟩ := a
    have hdf : df = [] := hdf
    subst hdf
    have ho := Option.some.inj ho
    subst ho
    have hsz : tm.size = 37 := hsz
    have t0 : tm.getD 0 undef = .slice A n c := hfr 0 (by decide)
    clear hdep hfr
    go_simp
    exact hK _ W (Below.refl _ W) (fun W9 hb => rfl)
   case s6 =>
    intro o ho a W hS hsz hdf hfr hdep K hK
    obtain ⟨tm, df⟩ := a
    have hdf : df = [] := hdf
    subst hdf
    have ho := Option.some.inj ho
    subst ho
    have hsz : tm.size = 37 := hsz
    have t9 : tm.getD 9 undef = .slice (some ⟨g, 0, none⟩) 1 c3 := hfr 9 (by decide)
    clear hdep hfr
    go_simp
    exact hK _ W (Below.refl _ W) (fun W9 hb => rfl)
   case s7 =>
    intro o ho a W hS hsz hdf hfr hdep K hK
    obtain ⟨tm, df⟩ := a
    have hdf : df = [] := hdf
    subst hdf
    have ho := Option.some.inj ho
    subst ho
    have hsz : tm.size = 37 := hsz
    have t33 : tm.getD 33 undef = .func (.func 97) #[] #[] := hdep ⟨4, .data⟩ (by simp) (by rfl) (by decide) W (Below.refl _ W)
    have t34 : tm.getD 34 undef = .slice A n c := hdep ⟨5, .data⟩ (by simp) (by rfl) (by decide) W (Below.refl _ W)
    have t35 : tm.getD 35 undef = .slice (some ⟨g, 0, none⟩) 1 c3 := hdep ⟨6, .data⟩ (by simp) (by rfl) (by decide) W (Below.refl _ W)
    clear hdep hfr
    go_simp
    refine (HST.out W hS).mono ?_
    rintro e W9 ⟨rfl, rfl⟩
    exact hK _ _ (Below.refl _ _) (fun W8 hc => rfl)
   case s8 =>
    intro o ho a W hS hsz hdf hfr hdep K hK
    obtain ⟨tm, df⟩ := a
    have hdf : df = [] := hdf
    subst hdf
    have ho := Option.some.inj ho
    subst ho
    have hsz : tm.size = 37 := hsz
    have t31 : tm.getD 31 undef = .int .i64 (x0 : Int) := hdep ⟨2, .data⟩ (by simp) (by rfl) (by decide) W (Below.refl _ W)
    clear hdep hfr
    go_simp
    exact hK _ W (Below.refl _ W) (fun W9 hb => rfl)
   case s9 =>
    intro o ho a W hS hsz hdf hfr hdep K hK
    obtain ⟨tm, df⟩ := a
    have hdf : df = [] := hdf
    subst hdf
    have ho := Option.some.inj ho
    subst ho
    have hsz : tm.size = 37 := hsz
    have t36 : tm.getD 36 undef = .int .u64 (sv : Int) := hdep ⟨7, .data⟩ (by simp) (by rfl) (by decide) W (Below.refl _ W)
    clear hdep hfr
    go_simp
    exact hK _ W (Below.refl _ W) (fun W9 hb => rfl)
   case s10 =>
    intro o ho a W hS hsz hdf hfr hdep K hK
    obtain ⟨tm, df⟩ := a
    have hdf : df = [] := hdf
    subst hdf
    have ho := Option.some.inj ho
    subst ho
    have hsz : tm.size = 37 := hsz
    clear hdep hfr
    go_simp
    exact hK _ W (Below.refl _ W) (fun W9 hb => rfl)
  case fin =>
   intro W hS
   simp only [fillD]
   go_simp
   go_wp2
   go_ret3
   exact ⟨⟨_, _, _, rfl, .inr (.inr (.inr ⟨HZ.out, ⟨by decide, by decide⟩, HNQ.out, x, HXW.out, by rw [HX0.out], by rw [HSV.out], rfl⟩))⟩, HB3.out.trans (hS.mono HB3.out.size)⟩
set_option maxHeartbeats 8000000 in
theorem cnt3_any (h0 : relErr n l = 0) : Calls Tryz.prog 17 #[.slice A n c, .int .i64 3] w (GivesC n 3 l w) := by
 unfold GivesC
 have hl := hR.word_len
 have hn : n ≤ 64 := relErr_zero h0
 have h1 : ¬ HasQ n l 3 → 1 ≤ n := fun hq => by
  rcases Nat.eq_zero_or_pos n with e | e
  ·subst e; exact absurd (hasQ_empty hl ⟨by decide, by decide⟩) hq
  ·exact e
 have HC := Lib.hid (fun W (hb : Below w.heap.size w W) => check_any n l A n c W.heap.size W ((hR.below hb).more hb.size) hw hm)
 have HD := Lib.hid (fun W => cond3_any W)
 have HW : Hid (∀ (W : World) (fa fs : Fn) (ca cb cs ct : Array Value), Below w.heap.size w W → Calls Tryz.prog 50 #[.agg #[.int .i64 3, .func fa ca cb, .int .i64 2, .func (.func 99) #[] #[], .func fs cs ct], .slice A n c] W (WitN n 3 l W)) :=
  Lib.hid (fun W fa fs ca cb cs ct hb => (wit3_any l A n c fa fs ca cb cs ct W ((hR.below hb).more hb.size) hw h1 hn (hT.below hb)).mono fun e w' h => h.fix h0 hl ⟨by decide, by decide⟩)
 have HR := Lib.hid (fun W (hb : Below w.heap.size w W) => (hR.below hb).more hb.size)
 have HN := Lib.hid hn
 have HZ := Lib.hid h0
 rw [h0] at HC
 unfold WitN at HW
 have qn : ∀ (w : World) (a : Option Addr) (n c n' c' : Nat), (binOp .eql 28 (.slice a n c) (.slice none n' c')).run Tryz.prog w = .ok (.bool a.isNone) w := fun w a n c n' c' => Lib.run_eql_slice_nil w _ _ a n c n' c' Tryz.underlying28
 clear hR hw hm hT h0 h1 hl hn
 go_enter Tryz.func17, Tryz.ntmps17
 go_wp2_with fail
 refine (HC.out _ (Below.refl _ w)).mono ?_
 rintro e w3 ⟨rfl, rfl⟩
 go_wp2_with fail
 refine (HD.out _).mono ?_
 rintro e w1 ⟨rfl, hb⟩
 have HB := Lib.hid hb
 clear hb
 have HB2 := Lib.hid (HB.out.alloc HB.out.size (.cells #[.int .i64 3, .func (.func 98) #[] #[.pointer (some ⟨w.heap.size + 1 + 1 + 1, 0, none⟩), .pointer (some ⟨w.heap.size + 1, 0, none⟩), .pointer (some ⟨w.heap.size + 1 + 1, 0, none⟩)], .int .i64 2, .func (.func 99) #[] #[], .func (.func 100) #[] #[]] 72))
 have KB := Lib.hid (heap_alloc_new w1 (.cells #[.int .i64 3, .func (.func 98) #[] #[.pointer (some ⟨w.heap.size + 1 + 1 + 1, 0, none⟩), .pointer (some ⟨w.heap.size + 1, 0, none⟩), .pointer (some ⟨w.heap.size + 1 + 1, 0, none⟩)], .int .i64 2, .func (.func 99) #[] #[], .func (.func 100) #[] #[]] 72))
 go_wp2_with fail
 refine (HW.out _ _ _ _ _ _ _ HB2.out).mono ?_
 rintro e w3 ⟨h1, hb⟩
 have HB3 := Lib.hid (HB2.out.trans (hb.mono HB2.out.size))
 have KB3 := Lib.hid ((hb.block _ (by simp)).trans KB.out)
 have HSZ : Hid ((w1.alloc (.cells #[.int .i64 3, .func (.func 98) #[] #[.pointer (some ⟨w.heap.size + 1 + 1 + 1, 0, none⟩), .pointer (some ⟨w.heap.size + 1, 0, none⟩), .pointer (some ⟨w.heap.size + 1 + 1, 0, none⟩)], .int .i64 2, .func (.func 99) #[] #[], .func (.func 100) #[] #[]] 72)).heap.size = w1.heap.size + 1) := Lib.hid (by simp)
 clear hb
 rcases h1 with ⟨hq, rfl⟩ | ⟨g, c3, x, hx, hq, rfl, hg, hh⟩
 ·have HQ := Lib.hid hq
  clear hq
  go_wp2
  go_ret3
  exact ⟨⟨0, 0, 6, rfl, .inr (.inr (.inl ⟨HZ.out, ⟨by decide, by decide⟩, HQ.out.2, rfl, rfl, rfl⟩))⟩, HB3.out⟩
 ·have HXW := Lib.hid hx
  have HNQ : Hid (¬ HasP n 3 l) := Lib.hid (fun h => hq ⟨HZ.out, h⟩)
  have HHN := Lib.hid hh
  have HG := Lib.hid hg
  have hlp : lenP 3 = 2 := rfl
  rw [hlp]
  have c0 : ∀ W, Below w3.heap.size w3 W → W.cell? ⟨g, 0, none⟩ = some (.int .i64 ((x.getD 0 0 : Nat) : Int)) := fun W hb => (hb.cell (p := ⟨g, 0, none⟩) HHN.out.lt).trans (HHN.out.cell 0 (by rw [hx.dig.1]; decide))
  have k4 : ∀ W, Below w3.heap.size w3 W → W.cell? ⟨w1.heap.size, 4, none⟩ = some (.func (.func 100) #[] #[]) := fun W hb => (hb.cell (p := ⟨w1.heap.size, 4, none⟩) (Array.getElem?_eq_some_iff.1 KB3.out).1).trans ((Lib.cell_of_heap KB3.out 4).trans rfl)
  have HC0 := Lib.hid c0
  have HK4 := Lib.hid k4
  have HRD : Hid (∀ W, Below w3.heap.size w3 W → Reads W W.heap.size 1 (some ⟨g, 0, none⟩) 2 (iv x)) := Lib.hid (fun W hb => by
   have h := (hh.reads.below hb).more hb.size
   rwa [hx.dig.1] at h)
  have hd0 : x.getD 0 0 < n := hx.dig.at_ (k := 0) (by decide)
  have HST : Hid (∀ W, Below w3.heap.size w3 W → Calls Tryz.prog 100 #[.slice A n c, .slice (some ⟨g, 0, none⟩) 2 c3] W fun e w' => e = .returned (.int .u64 ((setV 3 l x : Nat) : Int)) ∧ W = w') :=
   Lib.hid (fun W hb => (set3_any x _ _ c3 2 W (HRD.out W hb) (by decide) (by have := HN.out; omega)))
  clear hx hq hh hg hlp c0 k4 HW hd0
  generalize hx0 : x.getD 0 0 = x0 at *
  generalize hsv : setV 3 l x = sv at *
  have HX0 := Lib.hid hx0
  have HSV := Lib.hid hsv
  clear hx0 hsv
  go_wp2
  refine wp_region_constD [.slice (some ⟨g, 0, none⟩) 2 c3, .pointer (some ⟨g, 0, none⟩), .int .i64 (x0 : Int), .pointer (some ⟨w1.heap.size, 4, none⟩), .func (.func 100) #[] #[], .slice A n c, .slice (some ⟨g, 0, none⟩) 2 c3, .int .u64 (sv : Int), .int .i64 (x0 : Int), .int .u64 (sv : Int), .int .i64 0] [29, 30, 31, 32, 33, 34, 35, 36, 4, 5, 6] (fun W => Below w3.heap.size w3 W) (fun W W' => Below W.heap.size W W') 11 37 rfl rfl rfl rfl (by decide) (by decide) (by kernel_rfl) (by kernel_rfl) (by kernel_rfl) (fun W => Below.refl _ W) (fun W1 W2 W3 h1 h2 => h1.trans (h2.mono h1.size)) (fun W W' h h2 => h.trans (h2.mono h.size)) (Below.refl _ w3).drew ?hop ?fin
  case hop =>
   refine (lt_more (lt_more (lt_more (lt_more (lt_more (lt_more (lt_more (lt_more (lt_more (lt_more (lt_more (lt_none _) ?s0) ?s1) ?s2) ?s3) ?s4) ?s5) ?s6) ?s7) ?s8) ?s9) ?s10)
   case s0 =>
    intro o ho a W hS hsz hdf hfr hdep K hK
    obtain ⟨tm, df⟩ := a
    have hdf : df = [] := hdf
    subst hdf
    have ho := Option.some.inj ho
    subst ho
    have hsz : tm.size = 37 := hsz
    have t9 : tm.getD 9 undef = .slice (some ⟨g, 0, none⟩) 2 c3 := hfr 9 (by decide)
    clear hdep hfr
    go_simp
    exact hK _ W (Below.refl _ W) (fun W9 hb => rfl)
   case s1 =>
    intro o ho a W hS hsz hdf hfr hdep K hK
    obtain ⟨tm, df⟩ := a
    have hdf : df = [] := hdf
    subst hdf
    have ho := Option.some.inj ho
    subst ho
    have hsz : tm.size = 37 := hsz
    have t29 : tm.getD 29 undef = .slice (some ⟨g, 0, none⟩) 2 c3 := hdep ⟨0, .data⟩ (by simp) (by rfl) (by decide) W (Below.refl _ W)
    clear hdep hfr
    go_simp
    exact hK _ W (Below.refl _ W) (fun W9 hb => rfl)
   case s2 =>
    intro o ho a W hS hsz hdf hfr hdep K hK
    obtain ⟨tm, df⟩ := a
    have hdf : df = [] := hdf
    subst hdf
    have ho := Option.some.inj ho
    subst ho
    have hsz : tm.size = 37 := hsz
    have t30 : tm.getD 30 undef = .pointer (some ⟨g, 0, none⟩) := hdep ⟨1, .data⟩ (by simp) (by rfl) (by decide) W (Below.refl _ W)
    have cz := HC0.out W hS
    clear hdep hfr
    go_simp
    exact hK _ W (Below.refl _ W) (fun W9 hb => rfl)
   case s3 =>
    intro o ho a W hS hsz hdf hfr hdep K hK
    obtain ⟨tm, df⟩ := a
    have hdf : df = [] := hdf
    subst hdf
    have ho := Option.some.inj ho
    subst ho
    have hsz : tm.size = 37 := hsz
    have t7 : tm.getD 7 undef = .pointer (some ⟨w1.heap.size, 0, none⟩) := hfr 7 (by decide)
    clear hdep hfr
    go_simp
    exact hK _ W (Below.refl _ W) (fun W9 hb => rfl)
   case s4 =>
    intro o ho a W hS hsz hdf hfr hdep K hK
    obtain ⟨tm, df⟩ := a
    have hdf : df = [] := hdf
    subst hdf
    have ho := Option.some.inj ho
    subst ho
    have hsz : tm.size = 37 := hsz
    have t32 : tm.getD 32 undef = .pointer (some ⟨w1.heap.size, 4, none⟩) := hdep ⟨3, .data⟩ (by simp) (by rfl) (by decide) W (Below.refl _ W)
    have cz := HK4.out W hS
    clear hdep hfr
    go_simp
    exact hK _ W (Below.refl _ W) (fun W9 hb => rfl)
   case s5 =>
    intro o ho a W hS hsz hdf hfr hdep K hK
    obtain ⟨tm, df⟩ := a
    have hdf : df = [] := hdf
    subst hdf
    have ho := Option.some.inj ho
    subst ho
    have hsz : tm.size = 37 := hsz
    have t0 : tm.getD 0 undef = .slice A n c := hfr 0 (by decide)
    clear hdep hfr
    go_simp
    exact hK _ W (Below.refl _ W) (fun W9 hb => rfl)
   case s6 =>
    intro o ho a W hS hsz hdf hfr hdep K hK
    obtain ⟨tm, df⟩ := a
    have hdf : df = [] := hdf
    subst hdf
    have ho := Option.some.inj ho
    subst ho
    have hsz : tm.size = 37 := hsz
    have t9 : tm.getD 9 undef = .slice (some ⟨g, 0, none⟩) 2 c3 := hfr 9 (by decide)
    clear hdep hfr
    go_simp
    exact hK _ W (Below.refl _ W) (fun W9 hb => rfl)
   case s7 =>
    intro o ho a W hS hsz hdf hfr hdep K hK
    obtain ⟨tm, df⟩ := a
    have hdf : df = [] := hdf
    subst hdf
    have ho := Option.some.inj ho
    subst ho
    have hsz : tm.size = 37 := hsz
    have t33 : tm.getD 33 undef = .func (.func 100) #[] #[] := hdep ⟨4, .data⟩ (by simp) (by rfl) (by decide) W (Below.refl _ W)
    have t34 : tm.getD 34 undef = .slice A n c := hdep ⟨5, .data⟩ (by simp) (by rfl) (by decide) W (Below.refl _ W)
    have t35 : tm.getD 35 undef = .slice (some ⟨g, 0, none⟩) 2 c3 := hdep ⟨6, .data⟩ (by simp) (by rfl) (by decide) W (Below.refl _ W)
    clear hdep hfr
    go_simp
    refine (HST.out W hS).mono ?_
    rintro e W9 ⟨rfl, rfl⟩
    exact hK _ _ (Below.refl _ _) (fun W8 hc => rfl)
   case s8 =>
    intro o ho a W hS hsz hdf hfr hdep K hK
    obtain ⟨tm, df⟩ := a
    have hdf : df = [] := hdf
    subst hdf
    have ho := Option.some.inj ho
    subst ho
    have hsz : tm.size = 37 := hsz
    have t31 : tm.getD 31 undef = .int .i64 (x0 : Int) := hdep ⟨2, .data⟩ (by simp) (by rfl) (by decide) W (Below.refl _ W)
    clear hdep hfr
    go_simp
    exact hK _ W (Below.refl _ W) (fun W9 hb => rfl)
   case s9 =>
    intro o ho a W hS hsz hdf hfr hdep K hK
    obtain ⟨tm, df⟩ := a
    have hdf : df = [] := hdf
    subst hdf
    have ho := Option.some.inj ho
    subst ho
    have hsz : tm.size = 37 := hsz
    have t36 : tm.getD 36 undef = .int .u64 (sv : Int) := hdep ⟨7, .data⟩ (by simp) (by rfl) (by decide) W (Below.refl _ W)
    clear hdep hfr
    go_simp
    exact hK _ W (Below.refl _ W) (fun W9 hb => rfl)
   case s10 =>
    intro o ho a W hS hsz hdf hfr hdep K hK
    obtain ⟨tm, df⟩ := a
    have hdf : df = [] := hdf
    subst hdf
    have ho := Option.some.inj ho
    subst ho
    have hsz : tm.size = 37 := hsz
    clear hdep hfr
    go_simp
    exact hK _ W (Below.refl _ W) (fun W9 hb => rfl)
  case fin =>
   intro W hS
   simp only [fillD]
   go_simp
   go_wp2
   go_ret3
   exact ⟨⟨_, _, _, rfl, .inr (.inr (.inr ⟨HZ.out, ⟨by decide, by decide⟩, HNQ.out, x, HXW.out, by rw [HX0.out], by rw [HSV.out], rfl⟩))⟩, HB3.out.trans (hS.mono HB3.out.size)⟩
set_option maxHeartbeats 8000000 in
theorem cnt4_any (h0 : relErr n l = 0) : Calls Tryz.prog 17 #[.slice A n c, .int .i64 4] w (GivesC n 4 l w) := by
 unfold GivesC
 have hl := hR.word_len
 have hn : n ≤ 64 := relErr_zero h0
 have h1 : ¬ HasQ n l 4 → 1 ≤ n := fun hq => by
  rcases Nat.eq_zero_or_pos n with e | e
  ·subst e; exact absurd (hasQ_empty hl ⟨by decide, by decide⟩) hq
  ·exact e
 have HC := Lib.hid (fun W (hb : Below w.heap.size w W) => check_any n l A n c W.heap.size W ((hR.below hb).more hb.size) hw hm)
 have HD := Lib.hid (fun W => cond4_any W)
 have HW : Hid (∀ (W : World) (fa fs : Fn) (ca cb cs ct : Array Value), Below w.heap.size w W → Calls Tryz.prog 50 #[.agg #[.int .i64 4, .func fa ca cb, .int .i64 3, .func (.func 102) #[] #[], .func fs cs ct], .slice A n c] W (WitN n 4 l W)) :=
  Lib.hid (fun W fa fs ca cb cs ct hb => (wit4_any l A n c fa fs ca cb cs ct W ((hR.below hb).more hb.size) hw h1 hn (hT.below hb)).mono fun e w' h => h.fix h0 hl ⟨by decide, by decide⟩)
 have HR := Lib.hid (fun W (hb : Below w.heap.size w W) => (hR.below hb).more hb.size)
 have HN := Lib.hid hn
 have HZ := Lib.hid h0
 rw [h0] at HC
 unfold WitN at HW
 have qn : ∀ (w : World) (a : Option Addr) (n c n' c' : Nat), (binOp .eql 28 (.slice a n c) (.slice none n' c')).run Tryz.prog w = .ok (.bool a.isNone) w := fun w a n c n' c' => Lib.run_eql_slice_nil w _ _ a n c n' c' Tryz.underlying28
 clear hR hw hm hT h0 h1 hl hn
 go_enter Tryz.func17, Tryz.ntmps17
 go_wp2_with fail
 refine (HC.out _ (Below.refl _ w)).mono ?_
 rintro e w3 ⟨rfl, rfl⟩
 go_wp2_with fail
 refine (HD.out _).mono ?_
 rintro e w1 ⟨rfl, hb⟩
 have HB := Lib.hid hb
 clear hb
 have HB2 := Lib.hid (HB.out.alloc HB.out.size (.cells #[.int .i64 4, .func (.func 101) #[] #[.pointer (some ⟨w.heap.size + 1 + 1 + 1, 0, none⟩), .pointer (some ⟨w.heap.size + 1, 0, none⟩)], .int .i64 3, .func (.func 102) #[] #[], .func (.func 103) #[] #[]] 72))
 have KB := Lib.hid (heap_alloc_new w1 (.cells #[.int .i64 4, .func (.func 101) #[] #[.pointer (some ⟨w.heap.size + 1 + 1 + 1, 0, none⟩), .pointer (some ⟨w.heap.size + 1, 0, none⟩)], .int .i64 3, .func (.func 102) #[] #[], .func (.func 103) #[] #[]] 72))
 go_wp2_with fail
 refine (HW.out _ _ _ _ _ _ _ HB2.out).mono ?_
 rintro e w3 ⟨h1, hb⟩
 have HB3 := Lib.hid (HB2.out.trans (hb.mono HB2.out.size))
 have KB3 := Lib.hid ((hb.block _ (by simp)).trans KB.out)
 have HSZ : Hid ((w1.alloc (.cells #[.int .i64 4, .func (.func 101) #[] #[.pointer (some ⟨w.heap.size + 1 + 1 + 1, 0, none⟩), .pointer (some ⟨w.heap.size + 1, 0, none⟩)], .int .i64 3, .func (.func 102) #[] #[], .func (.func 103) #[] #[]] 72)).heap.size = w1.heap.size + 1) := Lib.hid (by simp)
 clear hb
 rcases h1 with ⟨hq, rfl⟩ | ⟨g, c3, x, hx, hq, rfl, hg, hh⟩
 ·have HQ := Lib.hid hq
  clear hq
  go_wp2
  go_ret3
  exact ⟨⟨0, 0, 6, rfl, .inr (.inr (.inl ⟨HZ.out, ⟨by decide, by decide⟩, HQ.out.2, rfl, rfl, rfl⟩))⟩, HB3.out⟩
 ·have HXW := Lib.hid hx
  have HNQ : Hid (¬ HasP n 4 l) := Lib.hid (fun h => hq ⟨HZ.out, h⟩)
  have HHN := Lib.hid hh
  have HG := Lib.hid hg
  have hlp : lenP 4 = 3 := rfl
  rw [hlp]
  have c0 : ∀ W, Below w3.heap.size w3 W → W.cell? ⟨g, 0, none⟩ = some (.int .i64 ((x.getD 0 0 : Nat) : Int)) := fun W hb => (hb.cell (p := ⟨g, 0, none⟩) HHN.out.lt).trans (HHN.out.cell 0 (by rw [hx.dig.1]; decide))
  have k4 : ∀ W, Below w3.heap.size w3 W → W.cell? ⟨w1.heap.size, 4, none⟩ = some (.func (.func 103) #[] #[]) := fun W hb => (hb.cell (p := ⟨w1.heap.size, 4, none⟩) (Array.getElem?_eq_some_iff.1 KB3.out).1).trans ((Lib.cell_of_heap KB3.out 4).trans rfl)
  have HC0 := Lib.hid c0
  have HK4 := Lib.hid k4
  have HRD : Hid (∀ W, Below w3.heap.size w3 W → Reads W W.heap.size 1 (some ⟨g, 0, none⟩) 3 (iv x)) := Lib.hid (fun W hb => by
   have h := (hh.reads.below hb).more hb.size
   rwa [hx.dig.1] at h)
  have hd0 : x.getD 0 0 < n := hx.dig.at_ (k := 0) (by decide)
  have HST : Hid (∀ W, Below w3.heap.size w3 W → Calls Tryz.prog 103 #[.slice A n c, .slice (some ⟨g, 0, none⟩) 3 c3] W fun e w' => e = .returned (.int .u64 ((setV 4 l x : Nat) : Int)) ∧ W = w') :=
   Lib.hid (fun W hb => (set4_any l x A _ n c c3 3 W ((HR.out W (HB3.out.trans (hb.mono HB3.out.size)))) (HRD.out W hb) (by decide) hd0))
  clear hx hq hh hg hlp c0 k4 HW hd0
  generalize hx0 : x.getD 0 0 = x0 at *
  generalize hsv : setV 4 l x = sv at *
  have HX0 := Lib.hid hx0
  have HSV := Lib.hid hsv
  clear hx0 hsv
  go_wp2
  refine wp_region_constD [.slice (some ⟨g, 0, none⟩) 3 c3, .pointer (some ⟨g, 0, none⟩), .int .i64 (x0 : Int), .pointer (some ⟨w1.heap.size, 4, none⟩), .func (.func 103) #[] #[], .slice A n c, .slice (some ⟨g, 0, none⟩) 3 c3, .int .u64 (sv : Int), .int .i64 (x0 : Int), .int .u64 (sv : Int), .int .i64 0] [29, 30, 31, 32, 33, 34, 35, 36, 4, 5, 6] (fun W => Below w3.heap.size w3 W) (fun W W' => Below W.heap.size W W') 11 37 rfl rfl rfl rfl (by decide) (by decide) (by kernel_rfl) (by kernel_rfl) (by kernel_rfl) (fun W => Below.refl _ W) (fun W1 W2 W3 h1 h2 => h1.trans (h2.mono h1.size)) (fun W W' h h2 => h.trans (h2.mono h.size)) (Below.refl _ w3).drew ?hop ?fin
  case hop =>
   refine (lt_more (lt_more (lt_more (lt_more (lt_more (lt_more (lt_more (lt_more (lt_more (lt_more (lt_more (lt_none _) ?s0) ?s1) ?s2) ?s3) ?s4) ?s5) ?s6) ?s7) ?s8) ?s9) ?s10)
   case s0 =>
    intro o ho a W hS hsz hdf hfr hdep K hK
    obtain ⟨tm, df⟩ := a
    have hdf : df = [] := hdf
    subst hdf
    have ho := Option.some.inj ho
    subst ho
    have hsz : tm.size = 37 := hsz
    have t9 : tm.getD 9 undef = .slice (some ⟨g, 0, none⟩) 3 c3 := hfr 9 (by decide)
    clear hdep hfr
    go_simp
    exact hK _ W (Below.refl _ W) (fun W9 hb => rfl)
   case s1 =>
    intro o ho a W hS hsz hdf hfr hdep K hK
    obtain ⟨tm, df⟩ := a
    have hdf : df = [] := hdf
    subst hdf
    have ho := Option.some.inj ho
    subst ho
    have hsz : tm.size = 37 := hsz
    have t29 : tm.getD 29 undef = .slice (some ⟨g, 0, none⟩) 3 c3 := hdep ⟨0, .data⟩ (by simp) (by rfl) (by decide) W (Below.refl _ W)
    clear hdep hfr
    go_simp
    exact hK _ W (Below.refl _ W) (fun W9 hb => rfl)
   case s2 =>
    intro o ho a W hS hsz hdf hfr hdep K hK
    obtain ⟨tm, df⟩ := a
    have hdf : df = [] := hdf
    subst hdf
    have ho := Option.some.inj ho
    subst ho
    have hsz : tm.size = 37 := hsz
    have t30 : tm.getD 30 undef = .pointer (some ⟨g, 0, none⟩) := hdep ⟨1, .data⟩ (by simp) (by rfl) (by decide) W (Below.refl _ W)
    have cz := HC0.out W hS
    clear hdep hfr
    go_simp
    exact hK _ W (Below.refl _ W) (fun W9 hb => rfl)
   case s3 =>
    intro o ho a W hS hsz hdf hfr hdep K hK
    obtain ⟨tm, df⟩ := a
    have hdf : df = [] := hdf
    subst hdf
    have ho := Option.some.inj ho
    subst ho
    have hsz : tm.size = 37 := hsz
    have t7 : tm.getD 7 undef = .pointer (some ⟨w1.heap.size, 0, none⟩) := hfr 7 (by decide)
    clear hdep hfr
    go_simp
    exact hK _ W (Below.refl _ W) (fun W9 hb => rfl)
   case s4 =>
    intro o ho a W hS hsz hdf hfr hdep K hK
    obtain ⟨tm, df⟩ := a
    have hdf : df = [] := hdf
    subst hdf
    have ho := Option.some.inj ho
    subst ho
    have hsz : tm.size = 37 := hsz
    have t32 : tm.getD 32 undef = .pointer (some ⟨w1.heap.size, 4, none⟩) := hdep ⟨3, .data⟩ (by simp) (by rfl) (by decide) W (Below.refl _ W)
    have cz := HK4.out W hS
    clear hdep hfr
    go_simp
    exact hK _ W (Below.refl _ W) (fun W9 hb => rfl)
   case s5 =>
    intro o ho a W hS hsz hdf hfr hdep K hK
    obtain ⟨tm, df⟩ := a
    have hdf : df = [] := hdf
    subst hdf
    have ho := Option.some.inj ho
    subst ho
    have hsz : tm.size = 37 := hsz
    have t0 : tm.getD 0 undef = .slice A n c := hfr 0 (by decide)
    clear hdep hfr
    go_simp
    exact hK _ W (Below.refl _ W) (fun W9 hb => rfl)
   case s6 =>
    intro o ho a W hS hsz hdf hfr hdep K hK
    obtain ⟨tm, df⟩ := a
    have hdf : df = [] := hdf
    subst hdf
    have ho := Option.some.inj ho
    subst ho
    have hsz : tm.size = 37 := hsz
    have t9 : tm.getD 9 undef = .slice (some ⟨g, 0, none⟩) 3 c3 := hfr 9 (by decide)
    clear hdep hfr
    go_simp
    exact hK _ W (Below.refl _ W) (fun W9 hb => rfl)
   case s7 =>
    intro o ho a W hS hsz hdf hfr hdep K hK
    obtain ⟨tm, df⟩ := a
    have hdf : df = [] := hdf
    subst hdf
    have ho := Option.some.inj ho
    subst ho
    have hsz : tm.size = 37 := hsz
    have t33 : tm.getD 33 undef = .func (.func 103) #[] #[] := hdep ⟨4, .data⟩ (by simp) (by rfl) (by decide) W (Below.refl _ W)
    have t34 : tm.getD 34 undef = .slice A n c := hdep ⟨5, .data⟩ (by simp) (by rfl) (by decide) W (Below.refl _ W)
    have t35 : tm.getD 35 undef = .slice (some ⟨g, 0, none⟩) 3 c3 := hdep ⟨6, .data⟩ (by simp) (by rfl) (by decide) W (Below.refl _ W)
    clear hdep hfr
    go_simp
    refine (HST.out W hS).mono ?_
    rintro e W9 ⟨rfl, rfl⟩
    exact hK _ _ (Below.refl _ _) (fun W8 hc => rfl)
   case s8 =>
    intro o ho a W hS hsz hdf hfr hdep K hK
    obtain ⟨tm, df⟩ := a
    have hdf : df = [] := hdf
    subst hdf
    have ho := Option.some.inj ho
    subst ho
    have hsz : tm.size = 37 := hsz
    have t31 : tm.getD 31 undef = .int .i64 (x0 : Int) := hdep ⟨2, .data⟩ (by simp) (by rfl) (by decide) W (Below.refl _ W)
    clear hdep hfr
    go_simp
    exact hK _ W (Below.refl _ W) (fun W9 hb => rfl)
   case s9 =>
    intro o ho a W hS hsz hdf hfr hdep K hK
    obtain ⟨tm, df⟩ := a
    have hdf : df = [] := hdf
    subst hdf
    have ho := Option.some.inj ho
    subst ho
    have hsz : tm.size = 37 := hsz
    have t36 : tm.getD 36 undef = .int .u64 (sv : Int) := hdep ⟨7, .data⟩ (by simp) (by rfl) (by decide) W (Below.refl _ W)
    clear hdep hfr
    go_simp
    exact hK _ W (Below.refl _ W) (fun W9 hb => rfl)
   case s10 =>
    intro o ho a W hS hsz hdf hfr hdep K hK
    obtain ⟨tm, df⟩ := a
    have hdf : df = [] := hdf
    subst hdf
    have ho := Option.some.inj ho
    subst ho
    have hsz : tm.size = 37 := hsz
    clear hdep hfr
    go_simp
    exact hK _ W (Below.refl _ W) (fun W9 hb => rfl)
  case fin =>
   intro W hS
   simp only [fillD]
   go_simp
   go_wp2
   go_ret3
   exact ⟨⟨_, _, _, rfl, .inr (.inr (.inr ⟨HZ.out, ⟨by decide, by decide⟩, HNQ.out, x, HXW.out, by rw [HX0.out], by rw [HSV.out], rfl⟩))⟩, HB3.out.trans (hS.mono HB3.out.size)⟩
set_option maxHeartbeats 8000000 in
theorem cnt5_any (h0 : relErr n l = 0) : Calls Tryz.prog 17 #[.slice A n c, .int .i64 5] w (GivesC n 5 l w) := by
 unfold GivesC
 have hl := hR.word_len
 have hn : n ≤ 64 := relErr_zero h0
 have h1 : ¬ HasQ n l 5 → 1 ≤ n := fun hq => by
  rcases Nat.eq_zero_or_pos n with e | e
  ·subst e; exact absurd (hasQ_empty hl ⟨by decide, by decide⟩) hq
  ·exact e
 have HC := Lib.hid (fun W (hb : Below w.heap.size w W) => check_any n l A n c W.heap.size W ((hR.below hb).more hb.size) hw hm)
 have HD := Lib.hid (fun W => cond5_any W)
 have HW : Hid (∀ (W : World) (fa fs : Fn) (ca cb cs ct : Array Value), Below w.heap.size w W → Calls Tryz.prog 50 #[.agg #[.int .i64 5, .func fa ca cb, .int .i64 3, .func (.func 105) #[] #[], .func fs cs ct], .slice A n c] W (WitN n 5 l W)) :=
  Lib.hid (fun W fa fs ca cb cs ct hb => (wit5_any l A n c fa fs ca cb cs ct W ((hR.below hb).more hb.size) hw h1 hn (hT.below hb)).mono fun e w' h => h.fix h0 hl ⟨by decide, by decide⟩)
 have HR := Lib.hid (fun W (hb : Below w.heap.size w W) => (hR.below hb).more hb.size)
 have HN := Lib.hid hn
 have HZ := Lib.hid h0
 rw [h0] at HC
 unfold WitN at HW
 have qn : ∀ (w : World) (a : Option Addr) (n c n' c' : Nat), (binOp .eql 28 (.slice a n c) (.slice none n' c')).run Tryz.prog w = .ok (.bool a.isNone) w := fun w a n c n' c' => Lib.run_eql_slice_nil w _ _ a n c n' c' Tryz.underlying28
 clear hR hw hm hT h0 h1 hl hn
 go_enter Tryz.func17, Tryz.ntmps17
 go_wp2_with fail
 refine (HC.out _ (Below.refl _ w)).mono ?_
 rintro e w3 ⟨rfl, rfl⟩
 go_wp2_with fail
 refine (HD.out _).mono ?_
 rintro e w1 ⟨rfl, hb⟩
 have HB := Lib.hid hb
 clear hb
 have HB2 := Lib.hid (HB.out.alloc HB.out.size (.cells #[.int .i64 5, .func (.func 104) #[] #[.pointer (some ⟨w.heap.size + 1 + 1 + 1, 0, none⟩), .pointer (some ⟨w.heap.size + 1 + 1, 0, none⟩), .pointer (some ⟨w.heap.size + 1, 0, none⟩)], .int .i64 3, .func (.func 105) #[] #[], .func (.func 106) #[] #[]] 72))
 have KB := Lib.hid (heap_alloc_new w1 (.cells #[.int .i64 5, .func (.func 104) #[] #[.pointer (some ⟨w.heap.size + 1 + 1 + 1, 0, none⟩), .pointer (some ⟨w.heap.size + 1 + 1, 0, none⟩), .pointer (some ⟨w.heap.size + 1, 0, none⟩)], .int .i64 3, .func (.func 105) #[] #[], .func (.func 106) #[] #[]] 72))
 go_wp2_with fail
 refine (HW.out _ _ _ _ _ _ _ HB2.out).mono ?_
 rintro e w3 ⟨h1, hb⟩
 have HB3 := Lib.hid (HB2.out.trans (hb.mono HB2.out.size))
 have KB3 := Lib.hid ((hb.block _ (by simp)).trans KB.out)
 have HSZ : Hid ((w1.alloc (.cells #[.int .i64 5, .func (.func 104) #[] #[.pointer (some ⟨w.heap.size + 1 + 1 + 1, 0, none⟩), .pointer (some ⟨w.heap.size + 1 + 1, 0, none⟩), .pointer (some ⟨w.heap.size + 1, 0, none⟩)], .int .i64 3, .func (.func 105) #[] #[], .func (.func 106) #[] #[]] 72)).heap.size = w1.heap.size + 1) := Lib.hid (by simp)
 clear hb
 rcases h1 with ⟨hq, rfl⟩ | ⟨g, c3, x, hx, hq, rfl, hg, hh⟩
 ·have HQ := Lib.hid hq
  clear hq
  go_wp2
  go_ret3
  exact ⟨⟨0, 0, 6, rfl, .inr (.inr (.inl ⟨HZ.out, ⟨by decide, by decide⟩, HQ.out.2, rfl, rfl, rfl⟩))⟩, HB3.out⟩
 ·have HXW := Lib.hid hx
  have HNQ : Hid (¬ HasP n 5 l) := Lib.hid (fun h => hq ⟨HZ.out, h⟩)
  have HHN := Lib.hid hh
  have HG := Lib.hid hg
  have hlp : lenP 5 = 3 := rfl
  rw [hlp]
  have c0 : ∀ W, Below w3.heap.size w3 W → W.cell? ⟨g, 0, none⟩ = some (.int .i64 ((x.getD 0 0 : Nat) : Int)) := fun W hb => (hb.cell (p := ⟨g, 0, none⟩) HHN.out.lt).trans (HHN.out.cell 0 (by rw [hx.dig.1]; decide))
  have k4 : ∀ W, Below w3.heap.size w3 W → W.cell? ⟨w1.heap.size, 4, none⟩ = some (.func (.func 106) #[] #[]) := fun W hb => (hb.cell (p := ⟨w1.heap.size, 4, none⟩) (Array.getElem?_eq_some_iff.1 KB3.out).1).trans ((Lib.cell_of_heap KB3.out 4).trans rfl)
  have HC0 := Lib.hid c0
  have HK4 := Lib.hid k4
  have HRD : Hid (∀ W, Below w3.heap.size w3 W → Reads W W.heap.size 1 (some ⟨g, 0, none⟩) 3 (iv x)) := Lib.hid (fun W hb => by
   have h := (hh.reads.below hb).more hb.size
   rwa [hx.dig.1] at h)
  have hd0 : x.getD 0 0 < n := hx.dig.at_ (k := 0) (by decide)
  have HST : Hid (∀ W, Below w3.heap.size w3 W → Calls Tryz.prog 106 #[.slice A n c, .slice (some ⟨g, 0, none⟩) 3 c3] W fun e w' => e = .returned (.int .u64 ((setV 5 l x : Nat) : Int)) ∧ W = w') :=
   Lib.hid (fun W hb => (set5_any x _ _ c3 3 W (HRD.out W hb) (by decide) (by have := HN.out; have : x.getD 2 0 < n := hx.dig.at_ (k := 2) (by decide); omega)))
  clear hx hq hh hg hlp c0 k4 HW hd0
  generalize hx0 : x.getD 0 0 = x0 at *
  generalize hsv : setV 5 l x = sv at *
  have HX0 := Lib.hid hx0
  have HSV := Lib.hid hsv
  clear hx0 hsv
  go_wp2
  refine wp_region_constD [.slice (some ⟨g, 0, none⟩) 3 c3, .pointer (some ⟨g, 0, none⟩), .int .i64 (x0 : Int), .pointer (some ⟨w1.heap.size, 4, none⟩), .func (.func 106) #[] #[], .slice A n c, .slice (some ⟨g, 0, none⟩) 3 c3, .int .u64 (sv : Int), .int .i64 (x0 : Int), .int .u64 (sv : Int), .int .i64 0] [29, 30, 31, 32, 33, 34, 35, 36, 4, 5, 6] (fun W => Below w3.heap.size w3 W) (fun W W' => Below W.heap.size W W') 11 37 rfl rfl rfl rfl (by decide) (by decide) (by kernel_rfl) (by kernel_rfl) (by kernel_rfl) (fun W => Below.refl _ W) (fun W1 W2 W3 h1 h2 => h1.trans (h2.mono h1.size)) (fun W W' h h2 => h.trans (h2.mono h.size)) (Below.refl _ w3).drew ?hop ?fin
  case hop =>
   refine (lt_more (lt_more (lt_more (lt_more (lt_more (lt_more (lt_more (lt_more (lt_more (lt_more (lt_more (lt_none _) ?s0) ?s1) ?s2) ?s3) ?s4) ?s5) ?s6) ?s7) ?s8) ?s9) ?s10)
   case s0 =>
    intro o ho a W hS hsz hdf hfr hdep K hK
    obtain ⟨tm, df⟩ := a
    have hdf : df = [] := hdf
    subst hdf
    have ho := Option.some.inj ho
    subst ho
    have hsz : tm.size = 37 := hsz
    have t9 : tm.getD 9 undef = .slice (some ⟨g, 0, none⟩) 3 c3 := hfr 9 (by decide)
    clear hdep hfr
    go_simp
    exact hK _ W (Below.refl _ W) (fun W9 hb => rfl)
   case s1 =>
    intro o ho a W hS hsz hdf hfr hdep K hK
    obtain ⟨tm, df⟩ := a
    have hdf : df = [] := hdf
    subst hdf
    have ho := Option.some.inj ho
    subst ho
    have hsz : tm.size = 37 := hsz
    have t29 : tm.getD 29 undef = .slice (some ⟨g, 0, none⟩) 3 c3 := hdep ⟨0, .data⟩ (by simp) (by rfl) (by decide) W (Below.refl _ W)
    clear hdep hfr
    go_simp
    exact hK _ W (Below.refl _ W) (fun W9 hb => rfl)
   case s2 =>
    intro o ho a W hS hsz hdf hfr hdep K hK
    obtain ⟨tm, df⟩ := a
    have hdf : df = [] := hdf
    subst hdf
    have ho := Option.some.inj ho
    subst ho
    have hsz : tm.size = 37 := hsz
    have t30 : tm.getD 30 undef = .pointer (some ⟨g, 0, none⟩) := hdep ⟨1, .data⟩ (by simp) (by rfl) (by decide) W (Below.refl _ W)
    have cz := HC0.out W hS
    clear hdep hfr
    go_simp
    exact hK _ W (Below.refl _ W) (fun W9 hb => rfl)
   case s3 =>
    intro o ho a W hS hsz hdf hfr hdep K hK
    obtain ⟨tm, df⟩ := a
    have hdf : df = [] := hdf
    subst hdf
    have ho := Option.some.inj ho
    subst ho
    have hsz : tm.size = 37 := hsz
    have t7 : tm.getD 7 undef = .pointer (some ⟨w1.heap.size, 0, none⟩) := hfr 7 (by decide)
    clear hdep hfr
    go_simp
    exact hK _ W (Below.refl _ W) (fun W9 hb => rfl)
   case s4 =>
    intro o ho a W hS hsz hdf hfr hdep K hK
    obtain ⟨tm, df⟩ := a
    have hdf : df = [] := hdf
    subst hdf
    have ho := Option.some.inj ho
    subst ho
    have hsz : tm.size = 37 := hsz
    have t32 : tm.getD 32 undef = .pointer (some ⟨w1.heap.size, 4, none⟩) := hdep ⟨3, .data⟩ (by simp) (by rfl) (by decide) W (Below.refl _ W)
    have cz := HK4.out W hS
    clear hdep hfr
    go_simp
    exact hK _ W (Below.refl _ W) (fun W9 hb => rfl)
   case s5 =>
    intro o ho a W hS hsz hdf hfr hdep K hK
    obtain ⟨tm, df⟩ := a
    have hdf : df = [] := hdf
    subst hdf
    have ho := Option.some.inj ho
    subst ho
    have hsz : tm.size = 37 := hsz
    have t0 : tm.getD 0 undef = .slice A n c := hfr 0 (by decide)
    clear hdep hfr
    go_simp
    exact hK _ W (Below.refl _ W) (fun W9 hb => rfl)
   case s6 =>
    intro o ho a W hS hsz hdf hfr hdep K hK
    obtain ⟨tm, df⟩ := a
    have hdf : df = [] := hdf
    subst hdf
    have ho := Option.some.inj ho
    subst ho
    have hsz : tm.size = 37 := hsz
    have t9 : tm.getD 9 undef = .slice (some ⟨g, 0, none⟩) 3 c3 := hfr 9 (by decide)
    clear hdep hfr
    go_simp
    exact hK _ W (Below.refl _ W) (fun W9 hb => rfl)
   case s7 =>
    intro o ho a W hS hsz hdf hfr hdep K hK
    obtain ⟨tm, df⟩ := a
    have hdf : df = [] := hdf
    subst hdf
    have ho := Option.some.inj ho
    subst ho
    have hsz : tm.size = 37 := hsz
    have t33 : tm.getD 33 undef = .func (.func 106) #[] #[] := hdep ⟨4, .data⟩ (by simp) (by rfl) (by decide) W (Below.refl _ W)
    have t34 : tm.getD 34 undef = .slice A n c := hdep ⟨5, .data⟩ (by simp) (by rfl) (by decide) W (Below.refl _ W)
    have t35 : tm.getD 35 undef = .slice (some ⟨g, 0, none⟩) 3 c3 := hdep ⟨6, .data⟩ (by simp) (by rfl) (by decide) W (Below.refl _ W)
    clear hdep hfr
    go_simp
    refine (HST.out W hS).mono ?_
    rintro e W9 ⟨rfl, rfl⟩
    exact hK _ _ (Below.refl _ _) (fun W8 hc => rfl)
   case s8 =>
    intro o ho a W hS hsz hdf hfr hdep K hK
    obtain ⟨tm, df⟩ := a
    have hdf : df = [] := hdf
    subst hdf
    have ho := Option.some.inj ho
    subst ho
    have hsz : tm.size = 37 := hsz
    have t31 : tm.getD 31 undef = .int .i64 (x0 : Int) := hdep ⟨2, .data⟩ (by simp) (by rfl) (by decide) W (Below.refl _ W)
    clear hdep hfr
    go_simp
    exact hK _ W (Below.refl _ W) (fun W9 hb => rfl)
   case s9 =>
    intro o ho a W hS hsz hdf hfr hdep K hK
    obtain ⟨tm, df⟩ := a
    have hdf : df = [] := hdf
    subst hdf
    have ho := Option.some.inj ho
    subst ho
    have hsz : tm.size = 37 := hsz
    have t36 : tm.getD 36 undef = .int .u64 (sv : Int) := hdep ⟨7, .data⟩ (by simp) (by rfl) (by decide) W (Below.refl _ W)
    clear hdep hfr
    go_simp
    exact hK _ W (Below.refl _ W) (fun W9 hb => rfl)
   case s10 =>
    intro o ho a W hS hsz hdf hfr hdep K hK
    obtain ⟨tm, df⟩ := a
    have hdf : df = [] := hdf
    subst hdf
    have ho := Option.some.inj ho
    subst ho
    have hsz : tm.size = 37 := hsz
    clear hdep hfr
    go_simp
    exact hK _ W (Below.refl _ W) (fun W9 hb => rfl)
  case fin =>
   intro W hS
   simp only [fillD]
   go_simp
   go_wp2
   go_ret3
   exact ⟨⟨_, _, _, rfl, .inr (.inr (.inr ⟨HZ.out, ⟨by decide, by decide⟩, HNQ.out, x, HXW.out, by rw [HX0.out], by rw [HSV.out], rfl⟩))⟩, HB3.out.trans (hS.mono HB3.out.size)⟩
end
end Go.Proofs.YtjpmhbnikoggaaaGreatDoor
/- Layer 15: the defects of a model: which there are, and how they lie in memory. -/
namespace Go.Proofs.YtjpmhbnikoggaaaGreatDoor
open Go.RowKit Go.Proofs.Ws
set_option maxRecDepth 100000
/-- a defect -/
structure Df where
 agent : Nat
 prop : Int
 ws : List Nat
open Classical in
/-- the least worlds that show it -/
noncomputable def witO (p : Int) (l : List Nat) : Option (List Nat) := if h : ∃ x, WitP l.length p l x then some h.choose else none
theorem witO_some {p : Int} {l x : List Nat} (h : WitP l.length p l x) : witO p l = some x := by
 unfold witO
 have hx : ∃ x, WitP l.length p l x := ⟨x, h⟩
 rw [dif_pos hx]
 rw [hx.choose_spec.unique h]
theorem witO_none {p : Int} {l : List Nat} (h : ∀ y, DigL l.length (lenP p) y → shB p l y = false) : witO p l = none := by
 unfold witO
 rw [dif_neg]
 rintro ⟨x, hx⟩
 have h1 := h x hx.dig
 rw [hx.shows] at h1
 cases h1
theorem witO_spec {p : Int} {l : List Nat} {x : List Nat} (h : witO p l = some x) : WitP l.length p l x := by
 unfold witO at h
 split at h
 ·rename_i hx
  injection h with h
  rw [← h]
  exact hx.choose_spec
 ·cases h
noncomputable def defP (k : Nat) (l : List Nat) (P : List Int) : List Df := P.filterMap fun p => (witO p l).map fun x => ⟨k, p, x⟩
noncomputable def defU (P : List Int) (R : List (List Nat)) (k : Nat) : List Df := ((List.range k).map fun a => defP a (R.getD a []) P).flatten
theorem defU_zero (P : List Int) (R : List (List Nat)) : defU P R 0 = [] := rfl
theorem defU_succ (P : List Int) (R : List (List Nat)) (k : Nat) : defU P R (k + 1) = defU P R k ++ defP k (R.getD k []) P := by
 unfold defU
 rw [List.range_succ, List.map_append, List.flatten_append]
 simp
theorem defP_take (k : Nat) (l : List Nat) (P : List Int) (j : Nat) (h : j < P.length) : defP k l (P.take (j + 1)) = defP k l (P.take j) ++ (match witO (P.getD j 0) l with | some x => [⟨k, P.getD j 0, x⟩] | none => []) := by
 unfold defP
 rw [List.take_succ_eq_append_getElem h, List.filterMap_append]
 have e : P[j] = P.getD j 0 := by rw [List.getD_eq_getElem?_getD, List.getElem?_eq_getElem h]; rfl
 rw [e]
 cases hw : witO (P.getD j 0) l <;> simp only [List.filterMap_cons, List.filterMap_nil, hw, Option.map_some, Option.map_none]
theorem defP_len (k : Nat) (l : List Nat) (P : List Int) : (defP k l P).length ≤ P.length := List.length_filterMap_le _ _
theorem defU_len (P : List Int) (R : List (List Nat)) (k : Nat) : (defU P R k).length ≤ k * P.length := by
 induction k with
 | zero => simp [defU_zero]
 | succ k ih =>
  rw [defU_succ, List.length_append]
  have := defP_len k (R.getD k []) P
  rw [Nat.add_mul, Nat.one_mul]
  omega
/-- numbers in a block, with whatever behind them -/
def IntB (W : World) (g : Nat) (x : List Nat) : Prop := ∃ q, W.heap[g]? = some (.cells (iv x ++ q).toArray 3 (0, 0))
theorem IntB.lt {W : World} {g : Nat} {x : List Nat} (h : IntB W g x) : g < W.heap.size := by
 obtain ⟨q, h⟩ := h
 exact (Array.getElem?_eq_some_iff.1 h).1
theorem IntB.of {W : World} {g : Nat} {x : List Nat} (h : HoldsN W g x) : IntB W g x := ⟨[], by rw [List.append_nil]; exact h⟩
theorem IntB.keep {W W' : World} {g : Nat} {x : List Nat} (h : IntB W g x) (hb : W'.heap[g]? = W.heap[g]?) : IntB W' g x := by
 obtain ⟨q, h⟩ := h
 exact ⟨q, hb.trans h⟩
theorem IntB.reads {W : World} {g : Nat} {x : List Nat} (h : IntB W g x) : Reads W W.heap.size 1 (some ⟨g, 0, none⟩) x.length (iv x) := by
 have hlt := h.lt
 obtain ⟨q, h⟩ := h
 refine ⟨by rw [iv_length]; omega, fun _ => ⟨_, rfl, hlt, fun j u hu => ?_⟩⟩
 rw [addr0, Lib.cell_of_heap h]
 rw [List.getElem?_toArray, List.getElem?_append_left (List.getElem?_eq_some_iff.1 hu).1]
 exact hu
/-- the cells of defects -/
def dfc (d : Df) (g : Nat × Nat) : List Value := [.int .i64 (d.agent : Int), .int .i64 d.prop, .slice (some ⟨g.1, 0, none⟩) d.ws.length g.2]
def dcs : List Df → List (Nat × Nat) → List Value
 | d :: ds, g :: gs => dfc d g ++ dcs ds gs
 | _, _ => []
theorem dcs_app : ∀ (ds : List Df) (gs : List (Nat × Nat)) (d : Df) (g : Nat × Nat), gs.length = ds.length → dcs (ds ++ [d]) (gs ++ [g]) = dcs ds gs ++ dfc d g
 | [], [], d, g, _ => by simp [dcs]
 | [], _ :: _, _, _, h => by simp at h
 | _ :: _, [], _, _, h => by simp at h
 | a :: ds, b :: gs, d, g, h => by
  have := dcs_app ds gs d g (by simpa using h)
  simp only [List.cons_append, dcs, this, List.append_assoc]
theorem own_keepF {W W' : World} {lo size : Nat} {e : TypeId} {v : Value} {n : Nat} {xs : List Value} (h : W.ownsRow lo e size v n xs) (hk : ∀ g, v.ownBlock = some g → W'.heap[g]? = W.heap[g]?) : W'.ownsRow lo e size v n xs := by
 refine ⟨h.1, ?_⟩
 rcases h.2 with hn | ⟨g, cap, cur, hv, hb, hg, rest⟩
 ·exact .inl hn
 ·exact .inr ⟨g, cap, cur, hv, hb, by rw [hk g (by rw [hv]; rfl)]; exact hg, rest⟩
theorem own_slF {w : World} {base : Nat} {e : TypeId} {v : Value} {n size : Nat} {xs : List Value} (h : w.ownsRow base e size v n xs) : ∃ A c, v = .slice A n c := by
 rcases h.2 with ⟨rfl, rfl⟩ | ⟨g, cap, cur, rfl, _⟩
 ·exact ⟨_, _, rfl⟩
 ·exact ⟨_, _, rfl⟩
/-- defects in a row of the call's own -/
structure DfS (W : World) (base : Nat) (v : Value) (ds : List Df) : Prop where
 ex : ∃ A c gs, v = .slice A ds.length c ∧ gs.length = ds.length ∧ W.ownsRow base 58 3 v ds.length (dcs ds gs) ∧ ∀ j, j < ds.length → base ≤ (gs.getD j (0, 0)).1 ∧ IntB W (gs.getD j (0, 0)).1 (ds.getD j ⟨0, 0, []⟩).ws
theorem DfS.nil (W : World) (base : Nat) : DfS W base (.slice none 0 0) [] := ⟨none, 0, [], rfl, rfl, World.ownsRow_nil _ _ _ _, fun j hj => absurd hj (by simp)⟩
theorem IntB.apart {W : World} {g base k : Nat} {x : List Nat} {v : Value} {xs : List Value} (h : IntB W g x) (hr : W.ownsRow base 58 3 v k xs) : some g ≠ v.ownBlock := by
 obtain ⟨q, h⟩ := h
 rcases hr.2 with ⟨rfl, _⟩ | ⟨g2, cap, cur, rfl, hb, hg, _⟩
 ·simp [Value.ownBlock]
 ·intro e
  simp only [Value.ownBlock, Option.some.injEq] at e
  subst e
  rw [h] at hg
  injection hg with hg
  injection hg with _ h2
  exact absurd h2 (by decide)
theorem DfS.below {W W' : World} {base : Nat} {v : Value} {ds : List Df} (h : DfS W base v ds) (hb : Below W.heap.size W W') : DfS W' base v ds := by
 obtain ⟨A, c, gs, e, hg, ho, hi⟩ := h.ex
 exact ⟨A, c, gs, e, hg, own_keepF ho (fun g hg => hb.block g (ho.lt g hg).2), fun j hj => ⟨(hi j hj).1, (hi j hj).2.keep (hb.block _ (hi j hj).2.lt)⟩⟩
end Go.Proofs.YtjpmhbnikoggaaaGreatDoor
/- Layer 15: Defects by the program. -/
namespace Go.Proofs.YtjpmhbnikoggaaaGreatDoor
open Go.RowKit Go.Proofs.Ws
set_option maxRecDepth 100000
theorem Tryz.infoDf : (Tryz.prog.info? 58).map (fun i => (i.zero, i.size, i.bytes)) = some (some (.agg #[.int .i64 0, .int .i64 0, .slice none 0 0]), 3, 40) := by kernel_rfl
theorem DfS.push {W w4 : World} {o : Obj} {base : Nat} {v' : Value} {A : Option Addr} {c : Nat} {gs : List (Nat × Nat)} {ds : List Df} {d : Df} {g cap : Nat} (hg : gs.length = ds.length)
  (ho : W.ownsRow base 58 3 (.slice A ds.length c) ds.length (dcs ds gs))
  (hi : ∀ j, j < ds.length → base ≤ (gs.getD j (0, 0)).1 ∧ IntB W (gs.getD j (0, 0)).1 (ds.getD j ⟨0, 0, []⟩).ws) (hx : IntB W g d.ws) (hb : base ≤ g)
  (hgr : (W.alloc o).grownBy w4 (Value.slice A ds.length c).ownBlock) (ho' : w4.ownsRow base 58 3 v' (ds.length + 1) (dcs ds gs ++ dfc d (g, cap))) : DfS w4 base v' (ds ++ [d]) := by
 obtain ⟨A', c', rfl⟩ := own_slF ho'
 have hk : ∀ {b : Nat} {x : List Nat}, IntB W b x → IntB w4 b x := fun {b x} h => by
  have hlt := h.lt
  refine h.keep ?_
  rw [hgr.block b (by simp; omega) (h.apart ho)]
  exact Below.heap_alloc W o b hlt
 refine ⟨A', c', gs ++ [(g, cap)], by simp, by simp [hg], ?_, fun j hj => ?_⟩
 ·rw [dcs_app ds gs d (g, cap) hg, List.length_append]
  exact ho'
 ·rw [List.length_append] at hj
  by_cases e : j < ds.length
  ·have h1 := hi j e
   have e1 : (gs ++ [(g, cap)]).getD j (0, 0) = gs.getD j (0, 0) := by
    rw [List.getD_eq_getElem?_getD, List.getElem?_append_left (by omega), ← List.getD_eq_getElem?_getD]
   have e2 : (ds ++ [d]).getD j ⟨0, 0, []⟩ = ds.getD j ⟨0, 0, []⟩ := by
    rw [List.getD_eq_getElem?_getD, List.getElem?_append_left (by omega), ← List.getD_eq_getElem?_getD]
   rw [e1, e2]
   exact ⟨h1.1, hk h1.2⟩
  ·obtain rfl : j = ds.length := by simp at hj; omega
   have e1 : (gs ++ [(g, cap)]).getD ds.length (0, 0) = (g, cap) := by
    rw [List.getD_eq_getElem?_getD, List.getElem?_append_right (by omega), hg, Nat.sub_self]; rfl
   have e2 : (ds ++ [d]).getD ds.length ⟨0, 0, []⟩ = d := by
    rw [List.getD_eq_getElem?_getD, List.getElem?_append_right (by omega), Nat.sub_self]; rfl
   rw [e1, e2]
   exact ⟨hb, hk hx⟩
/-- what conditionOf returns for one of the properties: its witness is the least list of worlds -/
def WitAll (p : Int) (v : Value) : Prop := ∀ (W : World) (l : List Nat) (A : Option Addr) (n c : Nat), Reads W W.heap.size 1 A n (us l) → Words l → relErr n l = 0 → Tab W → Calls Tryz.prog 50 #[v, .slice A n c] W (WitN n p l W)
def CondE (p : Int) (w : World) (e : Ending) (w' : World) : Prop :=
 ∃ (m : Int) (fa fb fs : Fn) (ca cb da db cs ct : Array Value), e = .returned (.tuple #[.agg #[.int .i64 p, .func fa ca cb, .int .i64 m, .func fb da db, .func fs cs ct], .bool true]) ∧ Below w.heap.size w w' ∧ WitAll p (.agg #[.int .i64 p, .func fa ca cb, .int .i64 m, .func fb da db, .func fs cs ct])
theorem condW {p : Int} (hp : 1 ≤ p ∧ p ≤ 5) (w : World) : Calls Tryz.prog 45 #[.int .i64 p] w (CondE p w) := by
 have hn : ∀ {n : Nat} {l : List Nat} {q : Int}, (1 ≤ q ∧ q ≤ 5) → l.length = n → ¬ HasQ n l q → 1 ≤ n := fun {n l q} hp hl hq => by
  rcases Nat.eq_zero_or_pos n with e | e
  ·subst e; exact absurd (hasQ_empty hl hp) hq
  ·exact e
 have hc : p = 1 ∨ p = 2 ∨ p = 3 ∨ p = 4 ∨ p = 5 := by omega
 rcases hc with rfl | rfl | rfl | rfl | rfl
 ·refine (cond1_any w).mono fun e w' h => ?_
  obtain ⟨rfl, hb⟩ := h
  exact ⟨_, _, _, _, _, _, _, _, _, _, rfl, hb, fun W l A n c hR hw h0 hT => (wit1_any l A n c _ _ _ _ _ _ W hR hw (hn hp hR.word_len) (relErr_zero h0) hT).mono fun e w' h => h.fix h0 hR.word_len hp⟩
 ·refine (cond2_any w).mono fun e w' h => ?_
  obtain ⟨rfl, hb⟩ := h
  exact ⟨_, _, _, _, _, _, _, _, _, _, rfl, hb, fun W l A n c hR hw h0 hT => (wit2_any l A n c _ _ _ _ _ _ W hR hw (hn hp hR.word_len) (relErr_zero h0) hT).mono fun e w' h => h.fix h0 hR.word_len hp⟩
 ·refine (cond3_any w).mono fun e w' h => ?_
  obtain ⟨rfl, hb⟩ := h
  exact ⟨_, _, _, _, _, _, _, _, _, _, rfl, hb, fun W l A n c hR hw h0 hT => (wit3_any l A n c _ _ _ _ _ _ W hR hw (hn hp hR.word_len) (relErr_zero h0) hT).mono fun e w' h => h.fix h0 hR.word_len hp⟩
 ·refine (cond4_any w).mono fun e w' h => ?_
  obtain ⟨rfl, hb⟩ := h
  exact ⟨_, _, _, _, _, _, _, _, _, _, rfl, hb, fun W l A n c hR hw h0 hT => (wit4_any l A n c _ _ _ _ _ _ W hR hw (hn hp hR.word_len) (relErr_zero h0) hT).mono fun e w' h => h.fix h0 hR.word_len hp⟩
 ·refine (cond5_any w).mono fun e w' h => ?_
  obtain ⟨rfl, hb⟩ := h
  exact ⟨_, _, _, _, _, _, _, _, _, _, rfl, hb, fun W l A n c hR hw h0 hT => (wit5_any l A n c _ _ _ _ _ _ W hR hw (hn hp hR.word_len) (relErr_zero h0) hT).mono fun e w' h => h.fix h0 hR.word_len hp⟩
end Go.Proofs.YtjpmhbnikoggaaaGreatDoor
/- Layer 15: Defects by the program: its walk. -/
namespace Go.Proofs.YtjpmhbnikoggaaaGreatDoor
open Go.RowKit Go.Proofs.Ws
set_option maxRecDepth 100000
/-- the defects of a model in a logic -/
noncomputable def defM (m : Mo) (g : Int) : List Df := if ckE m g = 0 then defU (proL g) m.rel m.rel.length else []
def GivesD (m : Mo) (g : Int) (w : World) (e : Ending) (w' : World) : Prop :=
 ∃ v', e = .returned (.tuple #[v', .int .i64 (ckE m g)]) ∧ DfS w' w.heap.size v' (defM m g) ∧ Below w.heap.size w w'
theorem proL_in (g : Int) : ∀ p ∈ proL g, 1 ≤ p ∧ p ≤ 5 := by
 rcases pro_cases g with h | h | h | h | h | h | h | h <;> rw [h.2.1] <;> simp
theorem lenP_le (p : Int) : lenP p ≤ 3 := by
 unfold lenP
 split
 ·decide
 ·split <;> decide
theorem getD_memI {P : List Int} {j : Nat} (h : j < P.length) : P.getD j 0 ∈ P := by
 rw [List.getD_eq_getElem?_getD, List.getElem?_eq_getElem h]; exact List.getElem_mem h
theorem DfS.mono {W : World} {base b2 : Nat} {v : Value} {ds : List Df} (h : DfS W base v ds) (hb : b2 ≤ base) : DfS W b2 v ds := by
 obtain ⟨A, c, gs, e, hg, ho, hi⟩ := h.ex
 refine ⟨A, c, gs, e, hg, ?_, fun j hj => ⟨Nat.le_trans hb (hi j hj).1, (hi j hj).2⟩⟩
 refine ⟨ho.1, ?_⟩
 rcases ho.2 with hn | ⟨g, cap, cur, hv, hbb, rest⟩
 ·exact .inl hn
 ·exact .inr ⟨g, cap, cur, hv, Nat.le_trans hb hbb, rest⟩
theorem box_at (w : World) (a b c : Value) : (w.alloc (.cells #[a, b, c] 25)).heap[w.heap.size]? = some (.cells #[a, b, c] 25) := heap_alloc_new w _
theorem pDef_bad (m : Mo) (v : Value) (g : Int) (w : World) (hM : MoR w w.heap.size v m) (hz : ckE m g ≠ 0) : Calls Tryz.prog 31 #[v, .int .i64 g] w (GivesD m g w) := by
 unfold GivesD
 obtain ⟨A1, c1, A2, c2, rfl, hv, hr⟩ := hM.ex
 have HB0 : Hid (Below w.heap.size w (w.alloc (.cells #[.int .i64 m.n, .slice A1 m.val.length c1, .slice A2 m.rel.length c2] 25))) := Lib.hid ((Below.refl _ w).alloc (Nat.le_refl _) _)
 have HC := Lib.hid (fun W (hb : Below w.heap.size w W) => pCk_any m (.agg #[.int .i64 m.n, .slice A1 m.val.length c1, .slice A2 m.rel.length c2]) g W (hM.below hb hb.size))
 have HZ : Hid (defM m g = []) := Lib.hid (by unfold defM; rw [if_neg hz])
 have hz1 : (ckE m g != 0) = true := by rw [bne_iff_ne]; exact hz
 clear hM hv hr hz
 generalize defM m g = D at *
 generalize ckE m g = er at *
 go_enter Tryz.func31, Tryz.ntmps31
 go_wp2_with fail
 refine (HC.out _ HB0.out).mono ?_
 rintro e w2 ⟨D9, d9, rfl, _, hb2⟩
 have HB2 := Lib.hid (HB0.out.trans (hb2.mono HB0.out.size))
 clear hb2
 go_wp2
 go_ret2
 exact ⟨_, rfl, by rw [HZ.out]; exact DfS.nil _ _, HB2.out⟩
set_option maxHeartbeats 8000000 in
theorem pDef_ok (m : Mo) (v : Value) (g : Int) (w : World) (hM : MoR w w.heap.size v m) (hT : Tab w) (hz : ckE m g = 0) : Calls Tryz.prog 31 #[v, .int .i64 g] w (GivesD m g w) := by
 unfold GivesD
 have hok : OkM m.n.toNat m ∧ ckL m g = proL g := by
  unfold ckE at hz
  by_cases h : chkM m = 0
  ·exact ⟨chkM_ok h, by unfold ckL; rw [if_pos h]⟩
  ·rw [if_neg h] at hz; exact absurd hz h
 obtain ⟨A1, c1, A2, c2, rfl, hv, hr⟩ := hM.ex
 have HB0 : Hid (Below w.heap.size w (w.alloc (.cells #[.int .i64 m.n, .slice A1 m.val.length c1, .slice A2 m.rel.length c2] 25))) := Lib.hid ((Below.refl _ w).alloc (Nat.le_refl _) _)
 have KB0 := Lib.hid (box_at w (.int .i64 m.n) (.slice A1 m.val.length c1) (.slice A2 m.rel.length c2))
 have HC := Lib.hid (fun W (hb : Below w.heap.size w W) => pCk_any m (.agg #[.int .i64 m.n, .slice A1 m.val.length c1, .slice A2 m.rel.length c2]) g W (hM.below hb hb.size))
 have HDM : Hid (defM m g = defU (proL g) m.rel m.rel.length) := Lib.hid (by unfold defM; rw [if_pos hz])
 have HRR := Lib.hid hr
 have HT := Lib.hid hT
 have HWR := Lib.hid hM.wrel
 have hnr : m.rel.length ≤ 4 := hok.1.agents
 have hk3 := proL_len g
 have HPI := Lib.hid (proL_in g)
 have hN : ∃ q : Nat, m.n.toNat = q ∧ m.n = (q : Int) ∧ 1 ≤ q ∧ q ≤ 64 := ⟨_, rfl, by have := hok.1.num; omega, hok.1.pos, hok.1.le⟩
 obtain ⟨q, hq, hqn, hq1, hq64⟩ := hN
 have HSH : Hid (∀ j, j < m.rel.length → Sh q (m.rel.getD j [])) := Lib.hid (fun j hj => by
  have hm : m.rel.getD j [] ∈ m.rel := getD_mem' hj
  exact ⟨by rw [hok.1.len _ hm, hq], fun x hx => by have := hok.1.rel _ hm x hx; rwa [hq] at this⟩)
 have HQN := Lib.hid hqn
 rw [hok.2, hz] at HC
 rw [hz]
 clear hM hv hr hT hz hok hq hqn
 generalize hnre : m.rel.length = nr at *
 have HNR := Lib.hid hnre
 clear hnre
 have qn : ∀ (w : World) (a : Option Addr) (n c n' c' : Nat), (binOp .neq 28 (.slice a n c) (.slice none n' c')).run Tryz.prog w = .ok (.bool (!a.isNone)) w := fun w a n c n' c' => run_neq_slice_nil_any w _ _ a n c n' c' Tryz.underlying28
 go_enter Tryz.func31, Tryz.ntmps31
 go_wp2_with fail
 refine (HC.out _ HB0.out).mono ?_
 rintro e w2 ⟨D, d, rfl, hL, hb2⟩
 have HL := Lib.hid hL
 have HB2 := Lib.hid (HB0.out.trans (hb2.mono HB0.out.size))
 have KB2 := Lib.hid ((hb2.block _ (by simp)).trans KB0.out)
 have b2 := (Lib.cell_of_heap KB2.out 2).trans (show _ = some (Value.slice A2 nr c2) from rfl)
 clear hb2 hL
 generalize hPL : proL g = PL at *
 have HPL := Lib.hid hPL
 have hpe := HL.out.int_len
 clear hPL hpe
 obtain ⟨i0, hi0, hz0, hz1, hz2⟩ := info_parts Tryz.infoDf
 generalize hkk : PL.length = k at *
 have HKK := Lib.hid hkk
 clear hkk
 go_wp2
 clear b2
 go_loopw [8, 9, 10, 12, 13, 14, 15, 28, 33, 34, 35] (fun v8 _ _ _ _ _ _ i _ _ _ wr => ∃ a : Nat, a ≤ nr ∧ i = .int .i64 (a : Int) ∧ Hid (DfS wr w2.heap.size v8 (defU PL m.rel a)) ∧ Hid (Below w2.heap.size w2 wr)) (fun _ _ _ _ _ _ _ i _ _ _ _ => nr - (intOf i).toNat)
 case atStart => exact ⟨0, Nat.zero_le _, rfl, Lib.hid (by rw [defU_zero]; exact DfS.nil _ _), Lib.hid (Below.refl _ _)⟩
 case round =>
  obtain ⟨a, ha, rfl, HDa, HBa⟩ := hrel
  by_cases hlt : a < nr
  ·obtain ⟨ad, Aj, cj, rfl, hb, hc0, hrj, hlj⟩ := HRR.out.at_ hlt
   have hsh := HSH.out a hlt
   have HBW := Lib.hid (HB2.out.trans (HBa.out.mono HB2.out.size))
   have hc := (HBW.out.cell (p := ad.add a) (by rw [block_of_add]; exact hb)).trans hc0
   rw [hsh.1] at hc hrj
   obtain ⟨l, hl⟩ : ∃ l, m.rel.getD a [] = l := ⟨_, rfl⟩
   have hww : Words l := by rw [← hl]; exact HWR.out _ (getD_mem' (by have := HNR.out; omega))
   rw [hl] at hsh hrj
   have HLE := Lib.hid hl
   have HS1 := Lib.hid hsh
   have HWO := Lib.hid hww
   have HRJ := Lib.hid hrj
   have HE0 : Hid (relErr q l = 0) := Lib.hid (by have h := sh_err hsh hq64; rwa [hsh.1] at h)
   clear hc0 hb hrj hlj hsh hl hww
   go_wp2
   clear hc
   go_loopw [8, 12, 13, 14, 15, 35] (fun v8 _ _ _ _ i wi => ∃ j : Nat, j ≤ k ∧ i = .int .i64 (j : Int) ∧ Hid (DfS wi w2.heap.size v8 (defU PL m.rel a ++ defP a l (PL.take j))) ∧ Hid (Below w2.heap.size w2 wi)) (fun _ _ _ _ _ i _ => k - (intOf i).toNat)
   case atStart => exact ⟨0, Nat.zero_le _, rfl, Lib.hid (by rw [List.take_zero, show defP a l [] = [] from rfl, List.append_nil]; exact HDa.out), HBa⟩
   case round =>
    obtain ⟨j, hj, rfl, HDj, HBj⟩ := hrel
    by_cases hlj : j < k
    ·have HBX := Lib.hid (HB2.out.trans (HBj.out.mono HB2.out.size))
     obtain ⟨aq, rfl, _, hcj⟩ := ((HL.out.below HBj.out).more HBj.out.size).int_k hlj
     have hpi := HPI.out (PL.getD j 0) (getD_memI (by have := HKK.out; omega))
     have HTK := Lib.hid (defP_take a l PL j (by have := HKK.out; omega))
     generalize PL.getD j 0 = p at *
     have HCW := Lib.hid (fun W => condW hpi W)
     unfold CondE at HCW
     have HPP := Lib.hid hpi
     clear hpi
     go_wp2_with fail
     refine (HCW.out _).mono ?_
     rintro e w4 ⟨mm, fa, fb, fs, ca, cb, da, db, cs, ct, rfl, hb4, hwa⟩
     have HB4 := Lib.hid (HBj.out.trans (hb4.mono HBj.out.size))
     have HB5 := Lib.hid (HB4.out.alloc HB4.out.size (.cells #[.int .i64 p, .func fa ca cb, .int .i64 mm, .func fb da db, .func fs cs ct] 72))
     have HD4 := Lib.hid (HDj.out.below hb4)
     have HD5 := Lib.hid (HD4.out.below ((Below.refl w4.heap.size w4).alloc (Nat.le_refl _) (.cells #[.int .i64 p, .func fa ca cb, .int .i64 mm, .func fb da db, .func fs cs ct] 72)))
     have HBB5 := Lib.hid (HB2.out.trans (HB5.out.mono HB2.out.size))
     have HWA := Lib.hid (hwa (w4.alloc (.cells #[.int .i64 p, .func fa ca cb, .int .i64 mm, .func fb da db, .func fs cs ct] 72)) l Aj q cj ((HRJ.out.below HBB5.out).more HBB5.out.size) HWO.out HE0.out (HT.out.below HBB5.out))
     unfold WitN at HWA
     clear hb4 hwa hcj
     go_wp2_with fail
     refine (HWA.out).mono ?_
     rintro e w6 ⟨h1, hb6⟩
     have HB6 := Lib.hid (HB5.out.trans (hb6.mono HB5.out.size))
     have HD6 := Lib.hid (HD5.out.below hb6)
     clear hb6
     rcases h1 with ⟨hq', rfl⟩ | ⟨g6, c6, x, hx, hq', rfl, hg6, hh6⟩
     ·have HNX : Hid (defU PL m.rel a ++ defP a l (PL.take (j + 1)) = defU PL m.rel a ++ defP a l (PL.take j)) := Lib.hid (by
       rw [HTK.out, witO_none (by rw [HS1.out.1]; exact (lack_iff HS1.out HPP.out).1 hq'.2), List.append_nil])
      clear hq'
      go_wp2
      go_roundw
      case rel => exact ⟨j + 1, by omega, by go_num, Lib.hid (by rw [HNX.out]; exact HD6.out), HB6⟩
      case measure => simp [intOf]; omega
     ·have HNX : Hid (defU PL m.rel a ++ defP a l (PL.take (j + 1)) = defU PL m.rel a ++ defP a l (PL.take j) ++ [⟨a, p, x⟩]) := Lib.hid (by
       rw [HTK.out, witO_some (by rw [HS1.out.1]; exact hx), List.append_assoc])
      have hdl : (defU PL m.rel a ++ defP a l (PL.take j)).length ≤ 100 := by
       have h1 := defU_len PL m.rel a
       have h2 := defP_len a l (PL.take j)
       rw [List.length_take] at h2
       rw [List.length_append]
       have h3 : a * PL.length ≤ 4 * 3 := Nat.mul_le_mul (by omega) (by have := HKK.out; omega)
       have := HKK.out
       omega
      have hxl := hx.dig.1
      have hxl3 := lenP_le p
      obtain ⟨A7, c7, gs, rfl, hgs, ho7, hi7⟩ := HD6.out.ex
      have HO7 := Lib.hid ho7
      have HI7 := Lib.hid hi7
      have HGS := Lib.hid hgs
      have HIX : Hid (IntB w6 g6 x) := Lib.hid (IntB.of hh6)
      have HG6 : Hid (w2.heap.size ≤ g6) := Lib.hid (Nat.le_trans HB5.out.size hg6)
      have HXL := Lib.hid hxl
      clear hx hq' hh6 hg6 hxl hgs hi7 HD6 HDj HDa
      generalize hdse : defU PL m.rel a ++ defP a l (PL.take j) = ds at *
      have HDSE := Lib.hid hdse
      clear hdse
      generalize lenP p = lx at *
      have hsz6 := HB6.out.size
      go_wp2_with (at_builtin; refine wpList_append_own _ rfl _ _ 53 rfl w2.heap.size 58 i0 (.agg #[.int .i64 0, .int .i64 0, .slice none 0 0]) 3 40 Tryz.underlying53 hi0 hz0 hz1 hz2 rfl (by decide) _ _ _ rfl (ho7.alloc _) ⟨w6.heap.size, 0, none⟩ 1 1 [.int .i64 (a : Int), .int .i64 p, .slice (some ⟨g6, 0, none⟩) lx c6] rfl rfl ?k1 ?k2 ?k3 ?k4 ?k5 ?_)
      case k1 =>
       intro j' u hj'
       match j', hj' with
       | 0, hj' => simp at hj'; subst hj'; simp [Addr.add]
       | 1, hj' => simp at hj'; subst hj'; simp [Addr.add]
       | 2, hj' => simp at hj'; subst hj'; simp [Addr.add]
      case k2 => intro u hu; simp at hu; rcases hu with rfl | rfl | rfl <;> rfl
      case k3 => unfold maxLen; omega
      case k4 => omega
      case k5 => simp; omega
      intro v' w8 hown' hgrow _
      have HD8 : Hid (DfS w8 w2.heap.size v' (ds ++ [⟨a, p, x⟩])) := Lib.hid (DfS.push HGS.out HO7.out HI7.out HIX.out HG6.out hgrow (by rw [← HXL.out] at hown'; exact hown'))
      have HB8 : Hid (Below w2.heap.size w2 w8) := Lib.hid ((HB6.out.alloc HB6.out.size _).grown hgrow (by simp; omega) (fun g hg => (HO7.out.lt g hg).1))
      clear hown' hgrow ho7
      go_wp2
      go_roundw
      case rel => exact ⟨j + 1, by omega, by go_num, Lib.hid (by rw [HNX.out]; exact HD8.out), HB8⟩
      case measure => simp [intOf]; omega
    ·obtain rfl : k = j := by omega
     go_wp2
     go_roundw
     case rel => exact ⟨a + 1, by omega, by go_num, Lib.hid (by rw [defU_succ, HLE.out]; have h := HDj.out; rwa [List.take_of_length_le (by have := HKK.out; omega)] at h), HBj⟩
     case measure => simp [intOf]; omega
  ·obtain rfl : nr = a := by omega
   go_wp2
   go_ret2
   exact ⟨_, rfl, by rw [HDM.out]; exact HDa.out.mono HB2.out.size, HB2.out.trans (HBa.out.mono HB2.out.size)⟩
theorem pDef_any (m : Mo) (v : Value) (g : Int) (w : World) (hM : MoR w w.heap.size v m) (hT : Tab w) : Calls Tryz.prog 31 #[v, .int .i64 g] w (GivesD m g w) := by
 by_cases hz : ckE m g = 0
 ·exact pDef_ok m v g w hM hT hz
 ·exact pDef_bad m v g w hM hz
end Go.Proofs.YtjpmhbnikoggaaaGreatDoor
