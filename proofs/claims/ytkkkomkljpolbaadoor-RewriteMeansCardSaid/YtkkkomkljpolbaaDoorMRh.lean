/- Layer 6: texts joined: Gjd Gje Gjf Gjg Gk. -/
import Derived.Test.YtkkkomkljpolbaaDoorMRg
/- Layer 8: the normalizer, the forms of negations. -/
namespace Go.Proofs.YtkkkomkljpolbaaDoor
open Go.RowKit Go.Proofs.Ws Go.Maps
set_option maxRecDepth 100000
set_option maxHeartbeats 4000000 in
theorem neg_4 {B base bw bm br b2 cf cn : Nat} {Af An : Option Addr} {W : World} {s : NS} (h : No B base bw bm br b2 Af cf An cn W s) (i e g : Int) (kx ky : Nat) (hi : FIn s ⟨4, i, e, g, (kx : Int), (ky : Int)⟩) :
    Calls Tryd.prog 79 #[.pointer (some ⟨br, 0, none⟩), nv ⟨4, i, e, g, (kx : Int), (ky : Int)⟩] W (NoOk B base bw bm br b2 Af cf An cn W s (nfNegP s.o ⟨4, i, e, g, (kx : Int), (ky : Int)⟩ (wOps ⟨4, i, e, g, (kx : Int), (ky : Int)⟩ s.fo) (wOps (dN ⟨4, i, e, g, (kx : Int), (ky : Int)⟩) s.ne) (s.fo.getD kx 0) (s.ne.getD kx 0) (s.fo.getD ky 0) (s.ne.getD ky 0))) := by
  have HS0 : Hid (No B base bw bm br b2 Af cf An cn (W.alloc (.cells #[.int .i64 4, .int .i64 i, .int .i64 e, .int .i64 g, .int .i64 (kx : Int), .int .i64 (ky : Int)] 62)) s) := Lib.hid (h.below ((Below.refl _ W).alloc (Nat.le_refl _) _))
  have HF0 : Hid (Fb bw bm W (W.alloc (.cells #[.int .i64 4, .int .i64 i, .int .i64 e, .int .i64 g, .int .i64 (kx : Int), .int .i64 (ky : Int)] 62))) := Lib.hid (Fb.of_below ((Below.refl _ W).alloc (Nat.le_refl _) _) h.bu.lwB)
  have HBX0 : Hid (Box (W.alloc (.cells #[.int .i64 4, .int .i64 i, .int .i64 e, .int .i64 g, .int .i64 (kx : Int), .int .i64 (ky : Int)] 62)) W.heap.size ⟨4, i, e, g, (kx : Int), (ky : Int)⟩) := Lib.hid (Box.made W ⟨4, i, e, g, (kx : Int), (ky : Int)⟩ 62)
  have HA0 := Lib.hid (AsideB.new (g := W.heap.size) h.bu.st ((Below.refl _ W).alloc (Nat.le_refl _) (.cells #[.int .i64 4, .int .i64 i, .int .i64 e, .int .i64 g, .int .i64 (kx : Int), .int .i64 (ky : Int)] 62)) (Nat.le_refl _) (by simp))
  have HI := Lib.hid hi
  clear h hi
  unfold nv
  have HR : Hid (nfNegP s.o ⟨4, i, e, g, (kx : Int), (ky : Int)⟩ (wOps ⟨4, i, e, g, (kx : Int), (ky : Int)⟩ s.fo) (wOps (dN ⟨4, i, e, g, (kx : Int), (ky : Int)⟩) s.ne) (s.fo.getD kx 0) (s.ne.getD kx 0) (s.fo.getD ky 0) (s.ne.getD ky 0) = (s.fo.getD kx 0, s.o)) := Lib.hid (by unfold nfNegP; simp)
  rw [HR.out]
  clear HR
  have hx1 : kx < s.fo.length := by have := (HI.out.x (show usesX 4 = true by decide)).2; simpa using this
  have hy1 : ky < s.fo.length := by have := HI.out.y0 (show ¬ usesY 4 = true by decide); have h9 : (ky : Int) = 0 := this; omega
  have hlf := HI.out.lf
  obtain ⟨af, hAf, _⟩ := HS0.out.elF hx1
  obtain ⟨an, hAn, _⟩ := HS0.out.elN (k := kx) (by omega)
  subst hAf hAn
  have px := HI.out.pf kx hx1
  have py := HI.out.pf ky hy1
  have qx := HI.out.pn kx (by omega)
  have qy := HI.out.pn ky (by omega)
  have HM : Hid (s.o.length ≤ 900000) := Lib.hid HI.out.few
  have HL0 := Lib.hid (HS0.out.lim HBX0.out hlf hx1 hy1)
  have HXY := Lib.hid (And.intro hlf (And.intro hx1 hy1))
  have hlm := HL0.out
  unfold Lim at hlm
  clear hlf hx1 hy1
  generalize hxp : s.fo.getD kx 0 = xp at *
  generalize hyp : s.fo.getD ky 0 = yp at *
  generalize hxn : s.ne.getD kx 0 = xn at *
  generalize hyn : s.ne.getD ky 0 = yn at *
  have HG := Lib.hid (And.intro hxp (And.intro hyp (And.intro hxn hyn)))
  clear hxp hyp hxn hyn
  have HP := Lib.hid (And.intro px (And.intro py (And.intro qx qy)))
  clear px py qx qy
  have HXL : Hid (kx < s.fo.length ∧ ky < s.fo.length ∧ kx < s.ne.length ∧ ky < s.ne.length) := Lib.hid (by have := HXY.out; omega)
  obtain ⟨hl1, hl2, hl3, hl4⟩ := HXL.out
  generalize hlfe : s.fo.length = lf at *
  generalize hlne : s.ne.length = ln at *
  have HLE := Lib.hid (And.intro hlfe hlne)
  clear hlfe hlne
  obtain ⟨l0, l1, l2, l3, l4, l5, l6, l7, l8⟩ := hlm
  dsimp only at l3 l4
  go_enter Tryd.func79, Tryd.ntmps79
  go_wp2_with fail
  generalize W.alloc (.cells #[.int .i64 4, .int .i64 i, .int .i64 e, .int .i64 g, .int .i64 (kx : Int), .int .i64 (ky : Int)] 62) = w0 at *
  generalize W.heap.size = gx at *
  obtain ⟨b0, b1, b2', b3, b4, b5, bf⟩ := HBX0.out
  dsimp only at b0 b1 b2' b3 b4 b5
  clear bf
  go_quiet (fail)
  go_wp2
  go_ret
  exact ⟨rfl, Lib.hid (HS0.out.below (below_drewN (Below.refl _ _) _)), Lib.hid (HF0.out.drewN _)⟩
set_option maxHeartbeats 4000000 in
theorem neg_7 {B base bw bm br b2 cf cn : Nat} {Af An : Option Addr} {W : World} {s : NS} (h : No B base bw bm br b2 Af cf An cn W s) (i e g : Int) (kx ky : Nat) (hi : FIn s ⟨7, i, e, g, (kx : Int), (ky : Int)⟩) :
    Calls Tryd.prog 79 #[.pointer (some ⟨br, 0, none⟩), nv ⟨7, i, e, g, (kx : Int), (ky : Int)⟩] W (NoOk B base bw bm br b2 Af cf An cn W s (nfNegP s.o ⟨7, i, e, g, (kx : Int), (ky : Int)⟩ (wOps ⟨7, i, e, g, (kx : Int), (ky : Int)⟩ s.fo) (wOps (dN ⟨7, i, e, g, (kx : Int), (ky : Int)⟩) s.ne) (s.fo.getD kx 0) (s.ne.getD kx 0) (s.fo.getD ky 0) (s.ne.getD ky 0))) := by
  have HS0 : Hid (No B base bw bm br b2 Af cf An cn (W.alloc (.cells #[.int .i64 7, .int .i64 i, .int .i64 e, .int .i64 g, .int .i64 (kx : Int), .int .i64 (ky : Int)] 62)) s) := Lib.hid (h.below ((Below.refl _ W).alloc (Nat.le_refl _) _))
  have HF0 : Hid (Fb bw bm W (W.alloc (.cells #[.int .i64 7, .int .i64 i, .int .i64 e, .int .i64 g, .int .i64 (kx : Int), .int .i64 (ky : Int)] 62))) := Lib.hid (Fb.of_below ((Below.refl _ W).alloc (Nat.le_refl _) _) h.bu.lwB)
  have HBX0 : Hid (Box (W.alloc (.cells #[.int .i64 7, .int .i64 i, .int .i64 e, .int .i64 g, .int .i64 (kx : Int), .int .i64 (ky : Int)] 62)) W.heap.size ⟨7, i, e, g, (kx : Int), (ky : Int)⟩) := Lib.hid (Box.made W ⟨7, i, e, g, (kx : Int), (ky : Int)⟩ 62)
  have HA0 := Lib.hid (AsideB.new (g := W.heap.size) h.bu.st ((Below.refl _ W).alloc (Nat.le_refl _) (.cells #[.int .i64 7, .int .i64 i, .int .i64 e, .int .i64 g, .int .i64 (kx : Int), .int .i64 (ky : Int)] 62)) (Nat.le_refl _) (by simp))
  have HI := Lib.hid hi
  clear h hi
  unfold nv
  have HR : Hid (nfNegP s.o ⟨7, i, e, g, (kx : Int), (ky : Int)⟩ (wOps ⟨7, i, e, g, (kx : Int), (ky : Int)⟩ s.fo) (wOps (dN ⟨7, i, e, g, (kx : Int), (ky : Int)⟩) s.ne) (s.fo.getD kx 0) (s.ne.getD kx 0) (s.fo.getD ky 0) (s.ne.getD ky 0) = jPut s.o 5 (s.fo.getD kx 0) (s.ne.getD ky 0)) := Lib.hid (by unfold nfNegP; simp)
  rw [HR.out]
  clear HR
  have hx1 : kx < s.fo.length := by have := (HI.out.x (show usesX 7 = true by decide)).2; simpa using this
  have hy1 : ky < s.fo.length := by have := (HI.out.y (show usesY 7 = true by decide)).2; simpa using this
  have hlf := HI.out.lf
  obtain ⟨af, hAf, _⟩ := HS0.out.elF hx1
  obtain ⟨an, hAn, _⟩ := HS0.out.elN (k := kx) (by omega)
  subst hAf hAn
  have px := HI.out.pf kx hx1
  have py := HI.out.pf ky hy1
  have qx := HI.out.pn kx (by omega)
  have qy := HI.out.pn ky (by omega)
  have HM : Hid (s.o.length ≤ 900000) := Lib.hid HI.out.few
  have HL0 := Lib.hid (HS0.out.lim HBX0.out hlf hx1 hy1)
  have HXY := Lib.hid (And.intro hlf (And.intro hx1 hy1))
  have hlm := HL0.out
  unfold Lim at hlm
  have C1 := Lib.hid (NoKeep.join (W0 := W) (W := (W.alloc (.cells #[.int .i64 7, .int .i64 i, .int .i64 e, .int .i64 g, .int .i64 (kx : Int), .int .i64 (ky : Int)] 62)).drew) (gx := W.heap.size) (kx := kx) (ky := ky) (n := ⟨7, i, e, g, (kx : Int), (ky : Int)⟩) (Lib.hid HS0.out.drew) (Lib.hid HF0.out.drew) (Lib.hid HA0.out.drew) (Lib.hid HBX0.out.drew) hlf hx1 hy1 (op := 5) (x := (s.fo.getD kx 0)) (y := (s.ne.getD ky 0)) (jN_bin (by decide) (by omega) (by omega) (by have := HI.out.few; omega)) (by have := HI.out.few; omega))
  unfold NoKeep Lim at C1
  clear hlf hx1 hy1
  generalize hxp : s.fo.getD kx 0 = xp at *
  generalize hyp : s.fo.getD ky 0 = yp at *
  generalize hxn : s.ne.getD kx 0 = xn at *
  generalize hyn : s.ne.getD ky 0 = yn at *
  have HG := Lib.hid (And.intro hxp (And.intro hyp (And.intro hxn hyn)))
  clear hxp hyp hxn hyn
  have HP := Lib.hid (And.intro px (And.intro py (And.intro qx qy)))
  clear px py qx qy
  have HXL : Hid (kx < s.fo.length ∧ ky < s.fo.length ∧ kx < s.ne.length ∧ ky < s.ne.length) := Lib.hid (by have := HXY.out; omega)
  obtain ⟨hl1, hl2, hl3, hl4⟩ := HXL.out
  generalize hlfe : s.fo.length = lf at *
  generalize hlne : s.ne.length = ln at *
  have HLE := Lib.hid (And.intro hlfe hlne)
  clear hlfe hlne
  obtain ⟨l0, l1, l2, l3, l4, l5, l6, l7, l8⟩ := hlm
  dsimp only at l3 l4
  go_enter Tryd.func79, Tryd.ntmps79
  go_wp2_with fail
  generalize W.alloc (.cells #[.int .i64 7, .int .i64 i, .int .i64 e, .int .i64 g, .int .i64 (kx : Int), .int .i64 (ky : Int)] 62) = w0 at *
  generalize W.heap.size = gx at *
  obtain ⟨b0, b1, b2', b3, b4, b5, bf⟩ := HBX0.out
  dsimp only at b0 b1 b2' b3 b4 b5
  clear bf
  go_region_held3 (fun W' => (W'.cell? ⟨br, 0, none⟩ = some (.pointer (some ⟨bw, 0, none⟩)) ∧ W'.cell? ⟨br, 1, none⟩ = some (.slice (some af) lf cf) ∧ W'.cell? ⟨br, 2, none⟩ = some (.slice (some an) ln cn) ∧ W'.cell? ⟨gx, 4, none⟩ = some (.int .i64 (kx : Int)) ∧ W'.cell? ⟨gx, 5, none⟩ = some (.int .i64 (ky : Int)) ∧ W'.cell? (af.add kx) = some (.int .i64 (xp : Int)) ∧ W'.cell? (an.add kx) = some (.int .i64 (xn : Int)) ∧ W'.cell? (af.add ky) = some (.int .i64 (yp : Int)) ∧ W'.cell? (an.add ky) = some (.int .i64 (yn : Int)))) (first | assumption | (refine ⟨?_, ?_, ?_, ?_, ?_, ?_, ?_, ?_, ?_⟩ <;> assumption))
    (first | (go_at_call 132; refine (C1.out).mono ?_; rintro r' w1 ⟨rfl, h1, f1, a1, x1, v0, v1, v2, v3, v4, v5, v6, v7, v8⟩))
  all_goals go_wp2
  all_goals go_ret
  all_goals exact ⟨rfl, h1, f1⟩
end Go.Proofs.YtkkkomkljpolbaaDoor
/- Layer 8: the normalizer, the forms of the negation of an equivalence. -/
namespace Go.Proofs.YtkkkomkljpolbaaDoor
open Go.RowKit Go.Proofs.Ws Go.Maps
set_option maxRecDepth 100000
set_option maxHeartbeats 4000000 in
theorem neg_8 {B base bw bm br b2 cf cn : Nat} {Af An : Option Addr} {W : World} {s : NS} (h : No B base bw bm br b2 Af cf An cn W s) (i e g : Int) (kx ky : Nat) (hi : FIn s ⟨8, i, e, g, (kx : Int), (ky : Int)⟩) :
    Calls Tryd.prog 79 #[.pointer (some ⟨br, 0, none⟩), nv ⟨8, i, e, g, (kx : Int), (ky : Int)⟩] W (NoOk B base bw bm br b2 Af cf An cn W s (nfNegP s.o ⟨8, i, e, g, (kx : Int), (ky : Int)⟩ (wOps ⟨8, i, e, g, (kx : Int), (ky : Int)⟩ s.fo) (wOps (dN ⟨8, i, e, g, (kx : Int), (ky : Int)⟩) s.ne) (s.fo.getD kx 0) (s.ne.getD kx 0) (s.fo.getD ky 0) (s.ne.getD ky 0))) := by
  have HS0 : Hid (No B base bw bm br b2 Af cf An cn (W.alloc (.cells #[.int .i64 8, .int .i64 i, .int .i64 e, .int .i64 g, .int .i64 (kx : Int), .int .i64 (ky : Int)] 62)) s) := Lib.hid (h.below ((Below.refl _ W).alloc (Nat.le_refl _) _))
  have HF0 : Hid (Fb bw bm W (W.alloc (.cells #[.int .i64 8, .int .i64 i, .int .i64 e, .int .i64 g, .int .i64 (kx : Int), .int .i64 (ky : Int)] 62))) := Lib.hid (Fb.of_below ((Below.refl _ W).alloc (Nat.le_refl _) _) h.bu.lwB)
  have HBX0 : Hid (Box (W.alloc (.cells #[.int .i64 8, .int .i64 i, .int .i64 e, .int .i64 g, .int .i64 (kx : Int), .int .i64 (ky : Int)] 62)) W.heap.size ⟨8, i, e, g, (kx : Int), (ky : Int)⟩) := Lib.hid (Box.made W ⟨8, i, e, g, (kx : Int), (ky : Int)⟩ 62)
  have HA0 := Lib.hid (AsideB.new (g := W.heap.size) h.bu.st ((Below.refl _ W).alloc (Nat.le_refl _) (.cells #[.int .i64 8, .int .i64 i, .int .i64 e, .int .i64 g, .int .i64 (kx : Int), .int .i64 (ky : Int)] 62)) (Nat.le_refl _) (by simp))
  have HI := Lib.hid hi
  clear h hi
  unfold nv
  have HR : Hid (nfNegP s.o ⟨8, i, e, g, (kx : Int), (ky : Int)⟩ (wOps ⟨8, i, e, g, (kx : Int), (ky : Int)⟩ s.fo) (wOps (dN ⟨8, i, e, g, (kx : Int), (ky : Int)⟩) s.ne) (s.fo.getD kx 0) (s.ne.getD kx 0) (s.fo.getD ky 0) (s.ne.getD ky 0) = jPut (jPut (jPut s.o 5 (s.fo.getD kx 0) (s.ne.getD ky 0)).2 5 (s.ne.getD kx 0) (s.fo.getD ky 0)).2 6 (jPut s.o 5 (s.fo.getD kx 0) (s.ne.getD ky 0)).1 (jPut (jPut s.o 5 (s.fo.getD kx 0) (s.ne.getD ky 0)).2 5 (s.ne.getD kx 0) (s.fo.getD ky 0)).1) := Lib.hid (by unfold nfNegP; simp)
  rw [HR.out]
  clear HR
  have hx1 : kx < s.fo.length := by have := (HI.out.x (show usesX 8 = true by decide)).2; simpa using this
  have hy1 : ky < s.fo.length := by have := (HI.out.y (show usesY 8 = true by decide)).2; simpa using this
  have hlf := HI.out.lf
  obtain ⟨af, hAf, _⟩ := HS0.out.elF hx1
  obtain ⟨an, hAn, _⟩ := HS0.out.elN (k := kx) (by omega)
  subst hAf hAn
  have px := HI.out.pf kx hx1
  have py := HI.out.pf ky hy1
  have qx := HI.out.pn kx (by omega)
  have qy := HI.out.pn ky (by omega)
  have HM : Hid (s.o.length ≤ 900000) := Lib.hid HI.out.few
  have HL0 := Lib.hid (HS0.out.lim HBX0.out hlf hx1 hy1)
  have HXY := Lib.hid (And.intro hlf (And.intro hx1 hy1))
  have hlm := HL0.out
  unfold Lim at hlm
  have C1 := Lib.hid (NoKeep.join (W0 := W) (W := (W.alloc (.cells #[.int .i64 8, .int .i64 i, .int .i64 e, .int .i64 g, .int .i64 (kx : Int), .int .i64 (ky : Int)] 62)).drew) (gx := W.heap.size) (kx := kx) (ky := ky) (n := ⟨8, i, e, g, (kx : Int), (ky : Int)⟩) (Lib.hid HS0.out.drew) (Lib.hid HF0.out.drew) (Lib.hid HA0.out.drew) (Lib.hid HBX0.out.drew) hlf hx1 hy1 (op := 5) (x := (s.fo.getD kx 0)) (y := (s.ne.getD ky 0)) (jN_bin (by decide) (by omega) (by omega) (by have := HI.out.few; omega)) (by have := HI.out.few; omega))
  unfold NoKeep Lim at C1
  have K1 := Lib.hid (put_facts s.o (jN 5 (s.fo.getD kx 0) (s.ne.getD ky 0)))
  have G1 : Hid ((jPut s.o 5 (s.fo.getD kx 0) (s.ne.getD ky 0)).1 < (jPut s.o 5 (s.fo.getD kx 0) (s.ne.getD ky 0)).2.length ∧ s.o.length ≤ (jPut s.o 5 (s.fo.getD kx 0) (s.ne.getD ky 0)).2.length ∧ (jPut s.o 5 (s.fo.getD kx 0) (s.ne.getD ky 0)).2.length ≤ s.o.length + 1) := K1
  have K2 := Lib.hid (put_facts (jPut s.o 5 (s.fo.getD kx 0) (s.ne.getD ky 0)).2 (jN 5 (s.ne.getD kx 0) (s.fo.getD ky 0)))
  have G2 : Hid ((jPut (jPut s.o 5 (s.fo.getD kx 0) (s.ne.getD ky 0)).2 5 (s.ne.getD kx 0) (s.fo.getD ky 0)).1 < (jPut (jPut s.o 5 (s.fo.getD kx 0) (s.ne.getD ky 0)).2 5 (s.ne.getD kx 0) (s.fo.getD ky 0)).2.length ∧ (jPut s.o 5 (s.fo.getD kx 0) (s.ne.getD ky 0)).2.length ≤ (jPut (jPut s.o 5 (s.fo.getD kx 0) (s.ne.getD ky 0)).2 5 (s.ne.getD kx 0) (s.fo.getD ky 0)).2.length ∧ (jPut (jPut s.o 5 (s.fo.getD kx 0) (s.ne.getD ky 0)).2 5 (s.ne.getD kx 0) (s.fo.getD ky 0)).2.length ≤ (jPut s.o 5 (s.fo.getD kx 0) (s.ne.getD ky 0)).2.length + 1) := K2
  clear K1 K2
  have C2 : Hid (∀ w1, Hid (No B base bw bm br b2 (some af) cf (some an) cn w1 ⟨s.fo, s.ne, (jPut s.o 5 (s.fo.getD kx 0) (s.ne.getD ky 0)).2⟩) → Hid (Fb bw bm W w1) → Hid (AsideB w1 bw bm W.heap.size) → Hid (Box w1 W.heap.size ⟨8, i, e, g, (kx : Int), (ky : Int)⟩) →
      Calls Tryd.prog 132 #[.pointer (some ⟨bw, 0, none⟩), .int .i64 5, .int .i64 ((s.ne.getD kx 0 : Nat) : Int), .int .i64 ((s.fo.getD ky 0 : Nat) : Int)] w1.drew (NoKeep B base bw bm br b2 af cf an cn W ⟨s.fo, s.ne, (jPut s.o 5 (s.fo.getD kx 0) (s.ne.getD ky 0)).2⟩ W.heap.size ⟨8, i, e, g, (kx : Int), (ky : Int)⟩ kx ky (jPut (jPut s.o 5 (s.fo.getD kx 0) (s.ne.getD ky 0)).2 5 (s.ne.getD kx 0) (s.fo.getD ky 0)))) := Lib.hid (fun w1 c1 c2 c3 c4 =>
    NoKeep.join (W0 := W) (W := w1.drew) (s := ⟨s.fo, s.ne, (jPut s.o 5 (s.fo.getD kx 0) (s.ne.getD ky 0)).2⟩) (gx := W.heap.size) (kx := kx) (ky := ky) (n := ⟨8, i, e, g, (kx : Int), (ky : Int)⟩) (Lib.hid c1.out.drew) (Lib.hid c2.out.drew) (Lib.hid c3.out.drew) (Lib.hid c4.out.drew) hlf hx1 hy1 (op := 5) (x := (s.ne.getD kx 0)) (y := (s.fo.getD ky 0)) (jN_bin (by decide) (by have := G1.out; dsimp only; omega) (by have := G1.out; dsimp only; omega) (by have := G1.out; have := HI.out.few; dsimp only; omega)) (by have := G1.out; have := HI.out.few; dsimp only; omega))
  unfold NoKeep Lim at C2
  clear hlf hx1 hy1
  generalize hxp : s.fo.getD kx 0 = xp at *
  generalize hyp : s.fo.getD ky 0 = yp at *
  generalize hxn : s.ne.getD kx 0 = xn at *
  generalize hyn : s.ne.getD ky 0 = yn at *
  have HG := Lib.hid (And.intro hxp (And.intro hyp (And.intro hxn hyn)))
  clear hxp hyp hxn hyn
  have HP := Lib.hid (And.intro px (And.intro py (And.intro qx qy)))
  clear px py qx qy
  have HXL : Hid (kx < s.fo.length ∧ ky < s.fo.length ∧ kx < s.ne.length ∧ ky < s.ne.length) := Lib.hid (by have := HXY.out; omega)
  obtain ⟨hl1, hl2, hl3, hl4⟩ := HXL.out
  generalize hlfe : s.fo.length = lf at *
  generalize hlne : s.ne.length = ln at *
  have HLE := Lib.hid (And.intro hlfe hlne)
  clear hlfe hlne
  obtain ⟨l0, l1, l2, l3, l4, l5, l6, l7, l8⟩ := hlm
  dsimp only at l3 l4
  go_enter Tryd.func79, Tryd.ntmps79
  go_wp2_with fail
  generalize W.alloc (.cells #[.int .i64 8, .int .i64 i, .int .i64 e, .int .i64 g, .int .i64 (kx : Int), .int .i64 (ky : Int)] 62) = w0 at *
  generalize W.heap.size = gx at *
  obtain ⟨b0, b1, b2', b3, b4, b5, bf⟩ := HBX0.out
  dsimp only at b0 b1 b2' b3 b4 b5
  clear bf
  generalize hp1 : jPut s.o 5 xp yn = p1 at *
  have HP1 := Lib.hid hp1
  clear hp1
  generalize hp2 : jPut p1.2 5 xn yp = p2 at *
  have HP2 := Lib.hid hp2
  clear hp2
  go_region_held3 (fun W' => (W'.cell? ⟨br, 0, none⟩ = some (.pointer (some ⟨bw, 0, none⟩)) ∧ W'.cell? ⟨br, 1, none⟩ = some (.slice (some af) lf cf) ∧ W'.cell? ⟨br, 2, none⟩ = some (.slice (some an) ln cn) ∧ W'.cell? ⟨gx, 4, none⟩ = some (.int .i64 (kx : Int)) ∧ W'.cell? ⟨gx, 5, none⟩ = some (.int .i64 (ky : Int)) ∧ W'.cell? (af.add kx) = some (.int .i64 (xp : Int)) ∧ W'.cell? (an.add kx) = some (.int .i64 (xn : Int)) ∧ W'.cell? (af.add ky) = some (.int .i64 (yp : Int)) ∧ W'.cell? (an.add ky) = some (.int .i64 (yn : Int)))) (first | assumption | (refine ⟨?_, ?_, ?_, ?_, ?_, ?_, ?_, ?_, ?_⟩ <;> assumption))
    (first | (go_at_call 132; refine (C1.out).mono ?_; rintro r' w1 ⟨rfl, h1, f1, a1, x1, v0, v1, v2, v3, v4, v5, v6, v7, v8⟩))
  clear b0 b1 b2' b3 b4 b5 l0 l1 l2 l3 l4 l5 l6 l7 l8
  go_wp2_with fail
  go_region_held3 (fun W' => (W'.cell? ⟨br, 0, none⟩ = some (.pointer (some ⟨bw, 0, none⟩)) ∧ W'.cell? ⟨br, 1, none⟩ = some (.slice (some af) lf cf) ∧ W'.cell? ⟨br, 2, none⟩ = some (.slice (some an) ln cn) ∧ W'.cell? ⟨gx, 4, none⟩ = some (.int .i64 (kx : Int)) ∧ W'.cell? ⟨gx, 5, none⟩ = some (.int .i64 (ky : Int)) ∧ W'.cell? (af.add kx) = some (.int .i64 (xp : Int)) ∧ W'.cell? (an.add kx) = some (.int .i64 (xn : Int)) ∧ W'.cell? (af.add ky) = some (.int .i64 (yp : Int)) ∧ W'.cell? (an.add ky) = some (.int .i64 (yn : Int)))) (first | assumption | (refine ⟨?_, ?_, ?_, ?_, ?_, ?_, ?_, ?_, ?_⟩ <;> assumption))
    (first | (go_at_call 132; refine (C2.out w1 h1 f1 a1 x1).mono ?_; rintro r' w2 ⟨rfl, h2, f2, a2, x2, u0, u1, u2, u3, u4, u5, u6, u7, u8⟩))
  clear v0 v1 v2 v3 v4 v5 v6 v7 v8
  go_wp2_with fail
  refine (bJoin_any h2.out.bu (op := 6) (x := p1.1) (y := p2.1) (jN_bin (by decide) (by have := G1.out; have := G2.out; dsimp only; omega) G2.out.1 (by have := G1.out; have := G2.out; have := HM.out; dsimp only; omega)) (by have := G1.out; have := G2.out; have := HM.out; dsimp only; omega)).mono ?_
  rintro r' w3 ⟨rfl, h3, f3⟩
  have H3 := Lib.hid (h2.out.next h3 f3)
  have F3 := Lib.hid (f2.out.trans f3)
  clear h3 f3
  go_wp2
  go_ret
  exact ⟨rfl, H3, F3⟩
end Go.Proofs.YtkkkomkljpolbaaDoor
/- Layer 8: the normalizer, dual operators. -/
namespace Go.Proofs.YtkkkomkljpolbaaDoor
open Go.RowKit Go.Proofs.Ws Go.Maps
set_option maxRecDepth 100000
set_option maxHeartbeats 4000000 in
theorem neg_d {B base bw bm br b2 cf cn : Nat} {Af An : Option Addr} {W : World} {s : NS} (h : No B base bw bm br b2 Af cf An cn W s) (m : Nat) (h4 : ¬ (m : Int) = 4) (h7 : ¬ (m : Int) = 7) (h8 : ¬ (m : Int) = 8) (hd : dualOf (m : Int) ≠ 0) (i e g : Int) (kx ky : Nat) (hi : FIn s ⟨(m : Int), i, e, g, (kx : Int), (ky : Int)⟩) :
    Calls Tryd.prog 79 #[.pointer (some ⟨br, 0, none⟩), nv ⟨(m : Int), i, e, g, (kx : Int), (ky : Int)⟩] W (NoOk B base bw bm br b2 Af cf An cn W s (nfNegP s.o ⟨(m : Int), i, e, g, (kx : Int), (ky : Int)⟩ (wOps ⟨(m : Int), i, e, g, (kx : Int), (ky : Int)⟩ s.fo) (wOps (dN ⟨(m : Int), i, e, g, (kx : Int), (ky : Int)⟩) s.ne) (s.fo.getD kx 0) (s.ne.getD kx 0) (s.fo.getD ky 0) (s.ne.getD ky 0))) := by
  have HDI0 := hi.dual (show dualOf (⟨(m : Int), i, e, g, (kx : Int), (ky : Int)⟩ : Nd).op ≠ 0 from hd)
  obtain ⟨du1, du2⟩ := dual_uses hd
  have hdk := dual_known hd
  have hdc : ∀ b, (W.alloc b).cell? ⟨2, m, none⟩ = some (.int .i64 (dualOf (m : Int))) := fun b => by
    rw [World.cell?_alloc_lt _ _ _ (by have := h.bu.env.ld; have := h.bu.size; show 2 < W.heap.size; omega)]
    exact h.bu.env.dls m (by have := hi.kn; unfold known at this; simp only [Bool.and_eq_true, decide_eq_true_eq] at this; omega)
  have h22 : m < 22 := by have := hi.kn; unfold known at this; simp only [Bool.and_eq_true, decide_eq_true_eq] at this; omega
  have hld : 2 < W.heap.size := by have := h.bu.env.ld; have := h.bu.size; omega
  have hdn : dN ⟨(m : Int), i, e, g, (kx : Int), (ky : Int)⟩ = ⟨dualOf (m : Int), i, e, g, (kx : Int), (ky : Int)⟩ := rfl
  rw [hdn] at HDI0
  have HDK : Hid (known (dualOf (m : Int)) = true ∧ (usesX (dualOf (m : Int)) = true → 0 ≤ (kx : Int) ∧ (kx : Int) < (s.ne.length : Int)) ∧ (usesY (dualOf (m : Int)) = true → 0 ≤ (ky : Int) ∧ (ky : Int) < (s.ne.length : Int))) := Lib.hid ⟨hdk, fun u => by have := hi.x (du1 ▸ u); have := hi.lf; dsimp only at *; omega, fun u => by have := hi.y (du2 ▸ u); have := hi.lf; dsimp only at *; omega⟩
  have HDI := Lib.hid HDI0
  have hd0 := hd
  clear HDI0 du1 du2 hdk hdn hd
  generalize hdd : dualOf (m : Int) = d at *
  have HS0 : Hid (No B base bw bm br b2 Af cf An cn (W.alloc (.cells #[.int .i64 d, .int .i64 i, .int .i64 e, .int .i64 g, .int .i64 (kx : Int), .int .i64 (ky : Int)] 62)) s) := Lib.hid (h.below ((Below.refl _ W).alloc (Nat.le_refl _) _))
  have HF0 : Hid (Fb bw bm W (W.alloc (.cells #[.int .i64 d, .int .i64 i, .int .i64 e, .int .i64 g, .int .i64 (kx : Int), .int .i64 (ky : Int)] 62))) := Lib.hid (Fb.of_below ((Below.refl _ W).alloc (Nat.le_refl _) _) h.bu.lwB)
  have HBX0 : Hid (Box (W.alloc (.cells #[.int .i64 d, .int .i64 i, .int .i64 e, .int .i64 g, .int .i64 (kx : Int), .int .i64 (ky : Int)] 62)) W.heap.size ⟨d, i, e, g, (kx : Int), (ky : Int)⟩) := Lib.hid (Box.made W ⟨d, i, e, g, (kx : Int), (ky : Int)⟩ 62)
  have HA0 := Lib.hid (AsideB.new (g := W.heap.size) h.bu.st ((Below.refl _ W).alloc (Nat.le_refl _) (.cells #[.int .i64 d, .int .i64 i, .int .i64 e, .int .i64 g, .int .i64 (kx : Int), .int .i64 (ky : Int)] 62)) (Nat.le_refl _) (by simp))
  have HI := Lib.hid hi
  clear h hi
  unfold nv
  have HR : Hid (nfNegP s.o ⟨(m : Int), i, e, g, (kx : Int), (ky : Int)⟩ (wOps ⟨(m : Int), i, e, g, (kx : Int), (ky : Int)⟩ s.fo) (wOps (dN ⟨(m : Int), i, e, g, (kx : Int), (ky : Int)⟩) s.ne) (s.fo.getD kx 0) (s.ne.getD kx 0) (s.fo.getD ky 0) (s.ne.getD ky 0) = putNd s.o (wOps ⟨d, i, e, g, (kx : Int), (ky : Int)⟩ s.ne)) := Lib.hid (by unfold nfNegP; simp [h4, h7, h8, hdd, hd0, dN])
  rw [HR.out]
  clear HR
  have hc1 := HS0.out.c2
  have hp := HS0.out.ptr
  have HW := Lib.hid (wops_any ⟨d, i, e, g, (kx : Int), (ky : Int)⟩ s.ne An s.ne.length cn B (W.alloc (.cells #[.int .i64 d, .int .i64 i, .int .i64 e, .int .i64 g, .int .i64 (kx : Int), .int .i64 (ky : Int)] 62)).drew (HS0.out.drew).bu.env (HS0.out.drew).bu.size HDK.out.1 ((Reads.of_own (HS0.out.drew).rn)) (fun u => by have := HDK.out.2.1 u; omega) (fun u => by have := HDK.out.2.2 u; omega))
  have HNI := Lib.hid HDI.out
  have HM : Hid (s.o.length ≤ 900000) := Lib.hid HI.out.few
  generalize wOps ⟨d, i, e, g, (kx : Int), (ky : Int)⟩ s.ne = z at *
  unfold nv at HW
  have hdc0 := hdc (.cells #[.int .i64 (m : Int), .int .i64 i, .int .i64 e, .int .i64 g, .int .i64 (kx : Int), .int .i64 (ky : Int)] 62)
  clear hdc
  have HDD := Lib.hid hdd
  clear hdd
  go_enter Tryd.func79, Tryd.ntmps79
  go_wp2_with fail
  clear hdc0
  generalize W.alloc (.cells #[.int .i64 d, .int .i64 i, .int .i64 e, .int .i64 g, .int .i64 (kx : Int), .int .i64 (ky : Int)] 62) = w0 at *
  generalize W.heap.size = gx at *
  obtain ⟨b0, b1, b2', b3, b4, b5, bf⟩ := HBX0.out
  dsimp only at b0 b1 b2' b3 b4 b5
  clear bf
  have HB0 : Hid (∀ W', Below w0.drew.heap.size w0.drew W' → W'.cell? ⟨br, 0, none⟩ = some (.pointer (some ⟨bw, 0, none⟩)) ∧ W'.cell? ⟨br, 2, none⟩ = some (.slice An s.ne.length cn) ∧ Hid (AsideB W' bw bm gx) ∧ Hid (Box W' gx ⟨d, i, e, g, (kx : Int), (ky : Int)⟩)) := Lib.hid (fun W' hb => by
    have h1 := (HS0.out.drew).below hb
    have hF := Fb.of_below (bm := bm) hb (HS0.out.drew).bu.lwB
    have hs := (HA0.out.drew).step hF
    exact ⟨h1.ptr, h1.c2, Lib.hid hs.2, Lib.hid (HBX0.out.drew.keep hs.1)⟩)
  have CW : Hid (Calls Tryd.prog 119 #[.agg #[.int .i64 d, .int .i64 i, .int .i64 e, .int .i64 g, .int .i64 (kx : Int), .int .i64 (ky : Int)], .slice An s.ne.length cn] w0.drew fun r w1 => r = .returned (.agg #[.int .i64 z.op, .int .i64 z.i, .int .i64 z.e, .int .i64 z.g, .int .i64 z.x, .int .i64 z.y]) ∧ Hid (No B base bw bm br b2 Af cf An cn w1 s) ∧ Hid (Fb bw bm W w1) ∧ Hid (AsideB w1 bw bm gx) ∧ Hid (Box w1 gx ⟨d, i, e, g, (kx : Int), (ky : Int)⟩) ∧ w1.cell? ⟨br, 0, none⟩ = some (.pointer (some ⟨bw, 0, none⟩)) ∧ w1.cell? ⟨br, 2, none⟩ = some (.slice An s.ne.length cn) ∧
      w1.cell? ⟨gx, 0, none⟩ = some (.int .i64 d) ∧ w1.cell? ⟨gx, 1, none⟩ = some (.int .i64 i) ∧ w1.cell? ⟨gx, 2, none⟩ = some (.int .i64 e) ∧ w1.cell? ⟨gx, 3, none⟩ = some (.int .i64 g) ∧ w1.cell? ⟨gx, 4, none⟩ = some (.int .i64 (kx : Int)) ∧ w1.cell? ⟨gx, 5, none⟩ = some (.int .i64 (ky : Int))) := Lib.hid ((HW.out).mono (fun r w1 ⟨hr, hb⟩ => by
    obtain ⟨k1, k2, k3, k4⟩ := HB0.out w1 hb
    obtain ⟨q0, q1, q2, q3, q4, q5, _⟩ := k4.out
    exact ⟨hr, Lib.hid ((HS0.out.drew).below hb), Lib.hid ((FbG.drew HF0.out).trans (Fb.of_below hb (HS0.out.drew).bu.lwB)), k3, k4, k1, k2, q0, q1, q2, q3, q4, q5⟩))
  have CA : Hid (∀ w1, Hid (No B base bw bm br b2 Af cf An cn w1 s) → Hid (Fb bw bm W w1) → Hid (AsideB w1 bw bm gx) → Hid (Box w1 gx ⟨d, i, e, g, (kx : Int), (ky : Int)⟩) → Calls Tryd.prog 82 #[.pointer (some ⟨bw, 0, none⟩), .agg #[.int .i64 z.op, .int .i64 z.i, .int .i64 z.e, .int .i64 z.g, .int .i64 z.x, .int .i64 z.y]] w1 fun r w2 => r = .returned (.int .i64 ((putNd s.o z).1 : Nat)) ∧ Hid (No B base bw bm br b2 Af cf An cn w2 ⟨s.fo, s.ne, (putNd s.o z).2⟩) ∧ Hid (Fb bw bm W w2) ∧ w2.cell? ⟨br, 0, none⟩ = some (.pointer (some ⟨bw, 0, none⟩)) ∧ w2.cell? ⟨br, 2, none⟩ = some (.slice An s.ne.length cn) ∧
      w2.cell? ⟨gx, 0, none⟩ = some (.int .i64 d) ∧ w2.cell? ⟨gx, 1, none⟩ = some (.int .i64 i) ∧ w2.cell? ⟨gx, 2, none⟩ = some (.int .i64 e) ∧ w2.cell? ⟨gx, 3, none⟩ = some (.int .i64 g) ∧ w2.cell? ⟨gx, 4, none⟩ = some (.int .i64 (kx : Int)) ∧ w2.cell? ⟨gx, 5, none⟩ = some (.int .i64 (ky : Int))) := Lib.hid (fun w1 c1 c2 c3 c4 => (add_any c1.out.bu HNI.out (by have := HM.out; omega)).mono (fun r w2 ⟨hr, h2, h3⟩ => by
    have hN := c1.out.next h2 h3
    obtain ⟨q0, q1, q2, q3, q4, q5, _⟩ := c4.out.keep (c3.out.step h3).1
    exact ⟨hr, Lib.hid hN, Lib.hid (c2.out.trans h3), hN.ptr, hN.c2, q0, q1, q2, q3, q4, q5⟩))
  clear HW HB0
  go_region_held3 (fun W' => (W'.cell? ⟨br, 0, none⟩ = some (.pointer (some ⟨bw, 0, none⟩)) ∧ W'.cell? ⟨br, 2, none⟩ = some (.slice An s.ne.length cn) ∧ W'.cell? ⟨gx, 0, none⟩ = some (.int .i64 d) ∧ W'.cell? ⟨gx, 1, none⟩ = some (.int .i64 i) ∧ W'.cell? ⟨gx, 2, none⟩ = some (.int .i64 e) ∧ W'.cell? ⟨gx, 3, none⟩ = some (.int .i64 g) ∧ W'.cell? ⟨gx, 4, none⟩ = some (.int .i64 (kx : Int)) ∧ W'.cell? ⟨gx, 5, none⟩ = some (.int .i64 (ky : Int)))) (first | assumption | (refine ⟨?_, ?_, ?_, ?_, ?_, ?_, ?_, ?_⟩ <;> assumption))
    (first
      | (go_at_call 119; refine (CW.out).mono ?_; rintro r' w1 ⟨rfl, h1, f1, a1, x1, v0, v1, v2, v3, v4, v5, v6, v7⟩)
      | (go_at_call 82; refine (CA.out w1 h1 f1 a1 x1).mono ?_; rintro r' w2 ⟨rfl, h2, f2, u0, u1, u2, u3, u4, u5, u6, u7⟩))
  all_goals go_wp2
  all_goals go_ret
  all_goals exact ⟨rfl, h2, f2⟩
end Go.Proofs.YtkkkomkljpolbaaDoor
/- Layer 8: the normalizer, negations of other nodes. -/
namespace Go.Proofs.YtkkkomkljpolbaaDoor
open Go.RowKit Go.Proofs.Ws Go.Maps
set_option maxRecDepth 100000
theorem pos_facts {s : NS} {n : Nd} (_hk : known n.op = true) (hi : FIn s n) : (nfPosP s.o n (wOps n s.fo) (s.fo.getD n.x.toNat 0) (s.ne.getD n.x.toNat 0) (s.fo.getD n.y.toNat 0) (s.ne.getD n.y.toNat 0)).1 < (nfPosP s.o n (wOps n s.fo) (s.fo.getD n.x.toNat 0) (s.ne.getD n.x.toNat 0) (s.fo.getD n.y.toNat 0) (s.ne.getD n.y.toNat 0)).2.length ∧
    s.o.length ≤ (nfPosP s.o n (wOps n s.fo) (s.fo.getD n.x.toNat 0) (s.ne.getD n.x.toNat 0) (s.fo.getD n.y.toNat 0) (s.ne.getD n.y.toNat 0)).2.length ∧ (nfPosP s.o n (wOps n s.fo) (s.fo.getD n.x.toNat 0) (s.ne.getD n.x.toNat 0) (s.fo.getD n.y.toNat 0) (s.ne.getD n.y.toNat 0)).2.length ≤ s.o.length + 3 := by
  unfold nfPosP
  by_cases h4 : n.op = 4
  · rw [if_pos h4]
    have := (hi.x (by rw [h4]; decide)).2
    exact ⟨hi.pn _ (by have := hi.lf; omega), Nat.le_refl _, by dsimp only; omega⟩
  rw [if_neg h4]
  by_cases h7 : n.op = 7
  · rw [if_pos h7]
    have := put_facts s.o (jN 6 (s.ne.getD n.x.toNat 0) (s.fo.getD n.y.toNat 0))
    exact ⟨this.1, this.2.1, Nat.le_trans this.2.2 (by omega)⟩
  rw [if_neg h7]
  by_cases h8 : n.op = 8
  · rw [if_pos h8]
    have q1 := put_facts s.o (jN 6 (s.ne.getD n.x.toNat 0) (s.fo.getD n.y.toNat 0))
    have e1 : jPut s.o 6 (s.ne.getD n.x.toNat 0) (s.fo.getD n.y.toNat 0) = putNd s.o (jN 6 (s.ne.getD n.x.toNat 0) (s.fo.getD n.y.toNat 0)) := rfl
    rw [← e1] at q1
    generalize jPut s.o 6 (s.ne.getD n.x.toNat 0) (s.fo.getD n.y.toNat 0) = p1 at *
    have q2 := put_facts p1.2 (jN 6 (s.fo.getD n.x.toNat 0) (s.ne.getD n.y.toNat 0))
    have e2 : jPut p1.2 6 (s.fo.getD n.x.toNat 0) (s.ne.getD n.y.toNat 0) = putNd p1.2 (jN 6 (s.fo.getD n.x.toNat 0) (s.ne.getD n.y.toNat 0)) := rfl
    rw [← e2] at q2
    generalize jPut p1.2 6 (s.fo.getD n.x.toNat 0) (s.ne.getD n.y.toNat 0) = p2 at *
    have q3 := put_facts p2.2 (jN 5 p1.1 p2.1)
    exact ⟨q3.1, Nat.le_trans q1.2.1 (Nat.le_trans q2.2.1 q3.2.1), Nat.le_trans q3.2.2 (by omega)⟩
  rw [if_neg h8]
  have := put_facts s.o (wOps n s.fo)
  exact ⟨this.1, this.2.1, Nat.le_trans this.2.2 (by omega)⟩
set_option maxHeartbeats 4000000 in
theorem neg_e {B base bw bm br b2 cf cn : Nat} {Af An : Option Addr} {W : World} {s : NS} (h : No B base bw bm br b2 Af cf An cn W s) (m : Nat) (h4 : ¬ (m : Int) = 4) (h7 : ¬ (m : Int) = 7) (h8 : ¬ (m : Int) = 8) (hd : dualOf (m : Int) = 0) (i e g : Int) (kx ky : Nat) (hi : FIn s ⟨(m : Int), i, e, g, (kx : Int), (ky : Int)⟩) (HFO : ∀ W s, No B base bw bm br b2 Af cf An cn W s → FIn s ⟨(m : Int), i, e, g, (kx : Int), (ky : Int)⟩ → Calls Tryd.prog 78 #[.pointer (some ⟨br, 0, none⟩), nv ⟨(m : Int), i, e, g, (kx : Int), (ky : Int)⟩] W (NoOk B base bw bm br b2 Af cf An cn W s (nfPosP s.o ⟨(m : Int), i, e, g, (kx : Int), (ky : Int)⟩ (wOps ⟨(m : Int), i, e, g, (kx : Int), (ky : Int)⟩ s.fo) (s.fo.getD kx 0) (s.ne.getD kx 0) (s.fo.getD ky 0) (s.ne.getD ky 0)))) :
    Calls Tryd.prog 79 #[.pointer (some ⟨br, 0, none⟩), nv ⟨(m : Int), i, e, g, (kx : Int), (ky : Int)⟩] W (NoOk B base bw bm br b2 Af cf An cn W s (nfNegP s.o ⟨(m : Int), i, e, g, (kx : Int), (ky : Int)⟩ (wOps ⟨(m : Int), i, e, g, (kx : Int), (ky : Int)⟩ s.fo) (wOps (dN ⟨(m : Int), i, e, g, (kx : Int), (ky : Int)⟩) s.ne) (s.fo.getD kx 0) (s.ne.getD kx 0) (s.fo.getD ky 0) (s.ne.getD ky 0))) := by
  have hdc : (W.alloc (.cells #[.int .i64 (m : Int), .int .i64 i, .int .i64 e, .int .i64 g, .int .i64 (kx : Int), .int .i64 (ky : Int)] 62)).cell? ⟨2, m, none⟩ = some (.int .i64 0) := by
    rw [World.cell?_alloc_lt _ _ _ (by have := h.bu.env.ld; have := h.bu.size; show 2 < W.heap.size; omega), h.bu.env.dls m (by have := hi.kn; unfold known at this; simp only [Bool.and_eq_true, decide_eq_true_eq] at this; omega), hd]
  have h22 : m < 22 := by have := hi.kn; unfold known at this; simp only [Bool.and_eq_true, decide_eq_true_eq] at this; omega
  have hld : 2 < W.heap.size := by have := h.bu.env.ld; have := h.bu.size; omega
  have HR : Hid (nfNegP s.o ⟨(m : Int), i, e, g, (kx : Int), (ky : Int)⟩ (wOps ⟨(m : Int), i, e, g, (kx : Int), (ky : Int)⟩ s.fo) (wOps (dN ⟨(m : Int), i, e, g, (kx : Int), (ky : Int)⟩) s.ne) (s.fo.getD kx 0) (s.ne.getD kx 0) (s.fo.getD ky 0) (s.ne.getD ky 0) = nPut (nfPosP s.o ⟨(m : Int), i, e, g, (kx : Int), (ky : Int)⟩ (wOps ⟨(m : Int), i, e, g, (kx : Int), (ky : Int)⟩ s.fo) (s.fo.getD kx 0) (s.ne.getD kx 0) (s.fo.getD ky 0) (s.ne.getD ky 0)).2 (nfPosP s.o ⟨(m : Int), i, e, g, (kx : Int), (ky : Int)⟩ (wOps ⟨(m : Int), i, e, g, (kx : Int), (ky : Int)⟩ s.fo) (s.fo.getD kx 0) (s.ne.getD kx 0) (s.fo.getD ky 0) (s.ne.getD ky 0)).1) := Lib.hid (by unfold nfNegP; simp [h4, h7, h8, hd])
  rw [HR.out]
  clear HR
  have K1 := Lib.hid (pos_facts hi.kn hi)
  have HS0 : Hid (No B base bw bm br b2 Af cf An cn (W.alloc (.cells #[.int .i64 (m : Int), .int .i64 i, .int .i64 e, .int .i64 g, .int .i64 (kx : Int), .int .i64 (ky : Int)] 62)) s) := Lib.hid (h.below ((Below.refl _ W).alloc (Nat.le_refl _) _))
  have HF0 : Hid (Fb bw bm W (W.alloc (.cells #[.int .i64 (m : Int), .int .i64 i, .int .i64 e, .int .i64 g, .int .i64 (kx : Int), .int .i64 (ky : Int)] 62))) := Lib.hid (Fb.of_below ((Below.refl _ W).alloc (Nat.le_refl _) _) h.bu.lwB)
  have HBX0 : Hid (Box (W.alloc (.cells #[.int .i64 (m : Int), .int .i64 i, .int .i64 e, .int .i64 g, .int .i64 (kx : Int), .int .i64 (ky : Int)] 62)) W.heap.size ⟨(m : Int), i, e, g, (kx : Int), (ky : Int)⟩) := Lib.hid (Box.made W ⟨(m : Int), i, e, g, (kx : Int), (ky : Int)⟩ 62)
  have HA0 := Lib.hid (AsideB.new (g := W.heap.size) h.bu.st ((Below.refl _ W).alloc (Nat.le_refl _) (.cells #[.int .i64 (m : Int), .int .i64 i, .int .i64 e, .int .i64 g, .int .i64 (kx : Int), .int .i64 (ky : Int)] 62)) (Nat.le_refl _) (by simp))
  have HI := Lib.hid hi
  clear h hi
  unfold nv
  have HM : Hid (s.o.length ≤ 900000) := Lib.hid HI.out.few
  have C1 := Lib.hid (HFO (W.alloc (.cells #[.int .i64 (m : Int), .int .i64 i, .int .i64 e, .int .i64 g, .int .i64 (kx : Int), .int .i64 (ky : Int)] 62)).drew s HS0.out.drew HI.out)
  have hp := HS0.out.ptr
  simp only [Int.toNat_natCast] at K1
  generalize nfPosP s.o ⟨(m : Int), i, e, g, (kx : Int), (ky : Int)⟩ (wOps ⟨(m : Int), i, e, g, (kx : Int), (ky : Int)⟩ s.fo) (s.fo.getD kx 0) (s.ne.getD kx 0) (s.fo.getD ky 0) (s.ne.getD ky 0) = p1 at *
  unfold nv at C1
  go_enter Tryd.func79, Tryd.ntmps79
  go_wp2_with fail
  clear hdc
  generalize W.alloc (.cells #[.int .i64 (m : Int), .int .i64 i, .int .i64 e, .int .i64 g, .int .i64 (kx : Int), .int .i64 (ky : Int)] 62) = w0 at *
  generalize W.heap.size = gx at *
  obtain ⟨b0, b1, b2', b3, b4, b5, bf⟩ := HBX0.out
  dsimp only at b0 b1 b2' b3 b4 b5
  clear bf
  have HK : Hid (∀ (w1 w2 : World) (o1 o2 : List Nd), Hid (No B base bw bm br b2 Af cf An cn w1 ⟨s.fo, s.ne, o1⟩) → Hid (AsideB w1 bw bm gx) → Hid (Box w1 gx ⟨(m : Int), i, e, g, (kx : Int), (ky : Int)⟩) → Hid (No B base bw bm br b2 Af cf An cn w2 ⟨s.fo, s.ne, o2⟩) → Hid (Fb bw bm w1 w2) → w2.cell? ⟨br, 0, none⟩ = some (.pointer (some ⟨bw, 0, none⟩)) ∧ Hid (AsideB w2 bw bm gx) ∧ Hid (Box w2 gx ⟨(m : Int), i, e, g, (kx : Int), (ky : Int)⟩) ∧ w2.cell? ⟨gx, 0, none⟩ = some (.int .i64 (m : Int)) ∧ w2.cell? ⟨gx, 1, none⟩ = some (.int .i64 i) ∧ w2.cell? ⟨gx, 2, none⟩ = some (.int .i64 e) ∧ w2.cell? ⟨gx, 3, none⟩ = some (.int .i64 g) ∧ w2.cell? ⟨gx, 4, none⟩ = some (.int .i64 (kx : Int)) ∧ w2.cell? ⟨gx, 5, none⟩ = some (.int .i64 (ky : Int))) := Lib.hid (fun w1 w2 o1 o2 c1 c2 c3 c4 c5 => by
    have hs := c2.out.step c5.out
    have hb := c3.out.keep hs.1
    obtain ⟨q0, q1, q2, q3, q4, q5, _⟩ := hb
    exact ⟨c4.out.ptr, Lib.hid hs.2, Lib.hid (c3.out.keep hs.1), q0, q1, q2, q3, q4, q5⟩)
  have CF := Lib.hid ((C1.out).mono (fun r w1 hk => by
    have hk2 := HK.out w0.drew w1 s.o p1.2 (Lib.hid HS0.out.drew) (Lib.hid HA0.out.drew) (Lib.hid HBX0.out.drew) hk.2.1 hk.2.2
    exact And.intro hk hk2))
  have CN : Hid (∀ w1, Hid (No B base bw bm br b2 Af cf An cn w1 ⟨s.fo, s.ne, p1.2⟩) → Hid (Fb bw bm w0.drew w1) → Hid (AsideB w1 bw bm gx) → Hid (Box w1 gx ⟨(m : Int), i, e, g, (kx : Int), (ky : Int)⟩) → Calls Tryd.prog 133 #[.pointer (some ⟨bw, 0, none⟩), .int .i64 (p1.1 : Int)] w1 fun r w2 => r = .returned (.int .i64 ((nPut p1.2 p1.1).1 : Nat)) ∧ Hid (No B base bw bm br b2 Af cf An cn w2 ⟨s.fo, s.ne, (nPut p1.2 p1.1).2⟩) ∧ Hid (Fb bw bm W w2) ∧ (w2.cell? ⟨br, 0, none⟩ = some (.pointer (some ⟨bw, 0, none⟩)) ∧ Hid (AsideB w2 bw bm gx) ∧ Hid (Box w2 gx ⟨(m : Int), i, e, g, (kx : Int), (ky : Int)⟩) ∧ w2.cell? ⟨gx, 0, none⟩ = some (.int .i64 (m : Int)) ∧ w2.cell? ⟨gx, 1, none⟩ = some (.int .i64 i) ∧ w2.cell? ⟨gx, 2, none⟩ = some (.int .i64 e) ∧ w2.cell? ⟨gx, 3, none⟩ = some (.int .i64 g) ∧ w2.cell? ⟨gx, 4, none⟩ = some (.int .i64 (kx : Int)) ∧ w2.cell? ⟨gx, 5, none⟩ = some (.int .i64 (ky : Int)))) := Lib.hid (fun w1 c1 c2 c3 c4 => (bNot_any c1.out.bu (x := p1.1) K1.out.1 (by have := K1.out; have := HM.out; dsimp only; omega)).mono (fun r w2 ⟨hr, h2, h3⟩ => by
    have hN := Lib.hid (c1.out.next h2 h3)
    exact ⟨hr, hN, Lib.hid (((FbG.drew HF0.out).trans c2.out).trans h3), HK.out w1 w2 _ _ c1 c3 c4 hN (Lib.hid h3)⟩))
  clear HK C1
  go_region_held3 (fun W' => (W'.cell? ⟨br, 0, none⟩ = some (.pointer (some ⟨bw, 0, none⟩)) ∧ W'.cell? ⟨gx, 0, none⟩ = some (.int .i64 (m : Int)) ∧ W'.cell? ⟨gx, 1, none⟩ = some (.int .i64 i) ∧ W'.cell? ⟨gx, 2, none⟩ = some (.int .i64 e) ∧ W'.cell? ⟨gx, 3, none⟩ = some (.int .i64 g) ∧ W'.cell? ⟨gx, 4, none⟩ = some (.int .i64 (kx : Int)) ∧ W'.cell? ⟨gx, 5, none⟩ = some (.int .i64 (ky : Int)))) (first | assumption | (refine ⟨?_, ?_, ?_, ?_, ?_, ?_, ?_⟩ <;> assumption))
    (first
      | (go_at_call 78; refine (CF.out).mono ?_; rintro r' w1 ⟨⟨rfl, h1, f1⟩, v0, a1, x1, v1, v2, v3, v4, v5, v6⟩)
      | (go_at_call 133; refine (CN.out w1 h1 f1 a1 x1).mono ?_; rintro r' w2 ⟨rfl, h2, f2, u0, a2, x2, u1, u2, u3, u4, u5, u6⟩))
  all_goals go_wp2
  all_goals go_ret
  all_goals exact ⟨rfl, h2, f2⟩
end Go.Proofs.YtkkkomkljpolbaaDoor
/- Layer 8: the normalizer's methods on any node; its two rows. -/
namespace Go.Proofs.YtkkkomkljpolbaaDoor
open Go.RowKit Go.Proofs.Ws Go.Maps
set_option maxRecDepth 100000
/-- the form of a node -/
def posAt (s : NS) (n : Nd) : Nat × List Nd := nfPosP s.o n (wOps n s.fo) (s.fo.getD n.x.toNat 0) (s.ne.getD n.x.toNat 0) (s.fo.getD n.y.toNat 0) (s.ne.getD n.y.toNat 0)
def negAt (s : NS) (n : Nd) : Nat × List Nd := nfNegP s.o n (wOps n s.fo) (wOps (dN n) s.ne) (s.fo.getD n.x.toNat 0) (s.ne.getD n.x.toNat 0) (s.fo.getD n.y.toNat 0) (s.ne.getD n.y.toNat 0)
theorem FIn.xy {s : NS} {n : Nd} (hi : FIn s n) : ∃ kx ky : Nat, n = ⟨n.op, n.i, n.e, n.g, (kx : Int), (ky : Int)⟩ := by
  have h1 : 0 ≤ n.x := by
    by_cases h : usesX n.op = true
    · exact (hi.x h).1
    · rw [hi.x0 h]; omega
  have h2 : 0 ≤ n.y := by
    by_cases h : usesY n.op = true
    · exact (hi.y h).1
    · rw [hi.y0 h]; omega
  refine ⟨n.x.toNat, n.y.toNat, ?_⟩
  rw [Int.toNat_of_nonneg h1, Int.toNat_of_nonneg h2]
theorem form_any {B base bw bm br b2 cf cn : Nat} {Af An : Option Addr} {W : World} {s : NS} (h : No B base bw bm br b2 Af cf An cn W s) (n : Nd) (hi : FIn s n) :
    Calls Tryd.prog 78 #[.pointer (some ⟨br, 0, none⟩), nv n] W (NoOk B base bw bm br b2 Af cf An cn W s (posAt s n)) := by
  obtain ⟨kx, ky, hn⟩ := hi.xy
  obtain ⟨m, hm, _, _⟩ := known_nat hi.kn
  obtain ⟨op, i, e, g, x, y⟩ := n
  dsimp only at hn hm
  subst hm
  injection hn with _ _ _ _ hx hy
  subst hx hy
  by_cases h4 : (m : Int) = 4
  · rw [h4] at hi ⊢
    exact form_4 h i e g kx ky hi
  by_cases h7 : (m : Int) = 7
  · rw [h7] at hi ⊢
    exact form_7 h i e g kx ky hi
  by_cases h8 : (m : Int) = 8
  · rw [h8] at hi ⊢
    exact form_8 h i e g kx ky hi
  exact form_e h m h4 h7 h8 i e g kx ky hi
theorem negated_any {B base bw bm br b2 cf cn : Nat} {Af An : Option Addr} {W : World} {s : NS} (h : No B base bw bm br b2 Af cf An cn W s) (n : Nd) (hi : FIn s n) :
    Calls Tryd.prog 79 #[.pointer (some ⟨br, 0, none⟩), nv n] W (NoOk B base bw bm br b2 Af cf An cn W s (negAt s n)) := by
  obtain ⟨kx, ky, hn⟩ := hi.xy
  obtain ⟨m, hm, _, _⟩ := known_nat hi.kn
  obtain ⟨op, i, e, g, x, y⟩ := n
  dsimp only at hn hm
  subst hm
  injection hn with _ _ _ _ hx hy
  subst hx hy
  by_cases h4 : (m : Int) = 4
  · rw [h4] at hi ⊢
    exact neg_4 h i e g kx ky hi
  by_cases h7 : (m : Int) = 7
  · rw [h7] at hi ⊢
    exact neg_7 h i e g kx ky hi
  by_cases h8 : (m : Int) = 8
  · rw [h8] at hi ⊢
    exact neg_8 h i e g kx ky hi
  by_cases hd : dualOf (m : Int) = 0
  · exact neg_e h m h4 h7 h8 hd i e g kx ky hi (fun W s h2 hi2 => form_any h2 _ hi2)
  · exact neg_d h m h4 h7 h8 hd i e g kx ky hi
/-- two worlds that differ in one block aside -/
structure But (r : Option Nat) (W W' : World) : Prop where
  os : W'.os = W.os
  tape : W'.tape = W.tape
  output : W'.output = W.output
  size : W.heap.size ≤ W'.heap.size
  block : ∀ k, k < W.heap.size → some k ≠ r → W'.heap[k]? = W.heap[k]?
theorem But.of_grown {W W' : World} {r : Option Nat} (h : W.grownBy W' r) : But r W W' := ⟨h.os, h.tape, h.output, h.size, h.block⟩
theorem But.row {r : Option Nat} {W W' : World} {bw bm : Nat} (h : But r W W') (ha : ∀ g, r = some g → AsideB W bw bm g) (hb : bw < W.heap.size) : rowB W' bw = rowB W bw := rowB_same (h.block bw hb (fun e => (ha bw e.symm).n1 rfl))
theorem But.aside {r : Option Nat} {W W' : World} {bw bm k : Nat} (h : But r W W') (ha : ∀ g, r = some g → AsideB W bw bm g) (hb : bw < W.heap.size) (hk : AsideB W bw bm k) : AsideB W' bw bm k :=
  ⟨Nat.lt_of_lt_of_le hk.lt h.size, hk.n1, hk.n3, by rw [h.row ha hb]; exact hk.row⟩
theorem But.new {r : Option Nat} {W W' : World} {B base bw bm k : Nat} {o : List Nd} (h : But r W W') (hu : Bu B base bw bm W o) (ha : ∀ g, r = some g → AsideB W bw bm g) (h1 : W.heap.size ≤ k) (h2 : k < W'.heap.size) : AsideB W' bw bm k := by
  have l1 := hu.st.lw
  have l2 := hu.st.lm
  have l3 := hu.st.lb
  refine ⟨h2, by omega, by omega, ?_⟩
  rw [h.row ha hu.lwB]
  intro e
  have := (hu.st.row k e.symm).2
  omega
theorem But.bu {r : Option Nat} {W W' : World} {B base bw bm : Nat} {o : List Nd} (h : But r W W') (hu : Bu B base bw bm W o) (ha : ∀ g, r = some g → AsideB W bw bm g) (hB : ∀ g, r = some g → B ≤ g) : Bu B base bw bm W' o := by
  have l1 := hu.st.lw
  have l2 := hu.st.lm
  have l3 := hu.st.lb
  refine ⟨hu.st.keep h.size (h.block bw (by omega) (fun e => (ha bw e.symm).n1 rfl)) (h.block bm (by omega) (fun e => (ha bm e.symm).n3 rfl)) (fun g hg => h.block g (hu.st.row g hg).2 (fun e => (ha g e.symm).row hg.symm)), ?_, hu.b1, hu.b2, hu.kn, hu.bd⟩
  exact hu.env.below ⟨h.os, h.tape, h.output, h.size, fun g hg => h.block g (by have := hu.size; omega) (fun e => by have := hB g e.symm; omega)⟩
theorem But.fb {r : Option Nat} {w W W' : World} {bw bm : Nat} (h : But r W W') (hF : Fb bw bm w W) (ha : ∀ g, r = some g → AsideB W bw bm g) (hb : bw < W.heap.size) (hw : ∀ g, r = some g → w.heap.size ≤ g) : Fb bw bm w W' :=
  ⟨h.os.trans hF.os, h.tape.trans hF.tape, h.output.trans hF.output, Nat.le_trans hF.size h.size, fun g hg h1 h2 h3 => (h.block g (Nat.lt_of_lt_of_le hg hF.size) (fun e => by have := hw g e.symm; omega)).trans (hF.block g hg h1 h2 h3), by rw [h.row ha hb]; exact hF.row⟩
/-- the loop of the normal form: what is in the normalizer's cells, and the two rows as they are -/
structure Ap (B base bw bm br N : Nat) (w : World) (S1 S2 V1 : Value) (l1 : List Nat) (V2 : Value) (l2 : List Nat) (Aq : Option Addr) (cq : Nat) (q : List Nd) (o : List Nd) (W : World) : Prop where
  bu : Bu B base bw bm W o
  fb : Fb bw bm w W
  as_ : AsideB W bw bm br
  ptr : W.cell? ⟨br, 0, none⟩ = some (.pointer (some ⟨bw, 0, none⟩))
  c1 : W.cell? ⟨br, 1, none⟩ = some S1
  c2 : W.cell? ⟨br, 2, none⟩ = some S2
  z1 : W.frozen? ⟨br, 1, none⟩ = false
  z2 : W.frozen? ⟨br, 2, none⟩ = false
  r1 : W.ownsRow (br + 1) 3 1 V1 l1.length (iv l1)
  r2 : W.ownsRow (br + 1) 3 1 V2 l2.length (iv l2)
  a1 : ∀ g, V1.ownBlock = some g → AsideB W bw bm g ∧ N ≤ g
  a2 : ∀ g, V2.ownBlock = some g → AsideB W bw bm g ∧ N ≤ g
  ap : ∀ g, V1.ownBlock = some g → V2.ownBlock ≠ some g
  lb : br < N
  nn : N ≤ W.heap.size
  w0 : w.heap.size ≤ br
  rq : W.ownsRow (br + 1) 62 6 (.slice Aq q.length cq) q.length (nds q)
  aq : ∀ g, (Value.slice Aq q.length cq).ownBlock = some g → AsideB W bw bm g ∧ g < N
/-- a call on the builder, or new blocks -/
theorem Ap.next {B base bw bm br N cq : Nat} {w W W' : World} {S1 S2 V1 V2 : Value} {l1 l2 : List Nat} {Aq : Option Addr} {q o o' : List Nd} (h : Ap B base bw bm br N w S1 S2 V1 l1 V2 l2 Aq cq q o W) (hu : Bu B base bw bm W' o') (hF : Fb bw bm W W') : Ap B base bw bm br N w S1 S2 V1 l1 V2 l2 Aq cq q o' W' := by
  obtain ⟨e, ha⟩ := h.as_.step hF
  have c := fun j => World.cell?_of_block (a := ⟨br, j, none⟩) e
  have f := fun j => World.frozen?_of_block (a := ⟨br, j, none⟩) e
  exact ⟨hu, h.fb.trans hF, ha, (c 0).trans h.ptr, (c 1).trans h.c1, (c 2).trans h.c2, (f 1).trans h.z1, (f 2).trans h.z2,
    own_keep1 h.r1 (fun g hg => ((h.a1 g hg).1.step hF).1), own_keep1 h.r2 (fun g hg => ((h.a2 g hg).1.step hF).1),
    fun g hg => ⟨((h.a1 g hg).1.step hF).2, (h.a1 g hg).2⟩, fun g hg => ⟨((h.a2 g hg).1.step hF).2, (h.a2 g hg).2⟩, h.ap, h.lb, Nat.le_trans h.nn hF.size, h.w0,
    own_keep1 h.rq (fun g hg => ((h.aq g hg).1.step hF).1), fun g hg => ⟨((h.aq g hg).1.step hF).2, (h.aq g hg).2⟩⟩
theorem Ap.below {B base bw bm br N cq : Nat} {w W W' : World} {S1 S2 V1 V2 : Value} {l1 l2 : List Nat} {Aq : Option Addr} {q o : List Nd} (h : Ap B base bw bm br N w S1 S2 V1 l1 V2 l2 Aq cq q o W) (hb : Below W.heap.size W W') : Ap B base bw bm br N w S1 S2 V1 l1 V2 l2 Aq cq q o W' :=
  h.next (h.bu.below hb) (Fb.of_below hb h.bu.lwB)
theorem Ap.alloc {B base bw bm br N cq : Nat} {w W : World} {S1 S2 V1 V2 : Value} {l1 l2 : List Nat} {Aq : Option Addr} {q o : List Nd} (h : Ap B base bw bm br N w S1 S2 V1 l1 V2 l2 Aq cq q o W) (b : Obj) : Ap B base bw bm br N w S1 S2 V1 l1 V2 l2 Aq cq q o (W.alloc b) :=
  h.below ((Below.refl _ W).alloc (Nat.le_refl _) b)
theorem Ap.drew {B base bw bm br N cq : Nat} {w W : World} {S1 S2 V1 V2 : Value} {l1 l2 : List Nat} {Aq : Option Addr} {q o : List Nd} (h : Ap B base bw bm br N w S1 S2 V1 l1 V2 l2 Aq cq q o W) : Ap B base bw bm br N w S1 S2 V1 l1 V2 l2 Aq cq q o W.drew :=
  h.below (Below.refl _ W).drew
/-- one row's block changes, or a new one comes -/
theorem Ap.but {B base bw bm br N cq : Nat} {w W W' : World} {S1 S2 V1 V2 V1' V2' : Value} {l1 l2 l1' l2' : List Nat} {Aq : Option Addr} {q o : List Nd} {r : Option Nat} (h : Ap B base bw bm br N w S1 S2 V1 l1 V2 l2 Aq cq q o W) (hB : B ≤ N) (hb : But r W W')
    (hr : ∀ g, r = some g → AsideB W bw bm g ∧ N ≤ g)
    (h1 : W'.ownsRow (br + 1) 3 1 V1' l1'.length (iv l1')) (h2 : W'.ownsRow (br + 1) 3 1 V2' l2'.length (iv l2'))
    (k1 : ∀ g, V1'.ownBlock = some g → (AsideB W bw bm g ∧ N ≤ g) ∨ (W.heap.size ≤ g ∧ g < W'.heap.size)) (k2 : ∀ g, V2'.ownBlock = some g → (AsideB W bw bm g ∧ N ≤ g) ∨ (W.heap.size ≤ g ∧ g < W'.heap.size))
    (ap : ∀ g, V1'.ownBlock = some g → V2'.ownBlock ≠ some g) : Ap B base bw bm br N w S1 S2 V1' l1' V2' l2' Aq cq q o W' := by
  have hra := fun g e => (hr g e).1
  have hbr : W'.heap[br]? = W.heap[br]? := hb.block br h.as_.lt (fun e => by have := (hr br e.symm).2; have := h.lb; omega)
  have c := fun j => World.cell?_of_block (a := ⟨br, j, none⟩) hbr
  have f := fun j => World.frozen?_of_block (a := ⟨br, j, none⟩) hbr
  have hws := h.nn
  have hw0 := h.w0
  have hlb := h.lb
  have both : ∀ g, (AsideB W bw bm g ∧ N ≤ g) ∨ (W.heap.size ≤ g ∧ g < W'.heap.size) → AsideB W' bw bm g ∧ N ≤ g := fun g e => by
    rcases e with ⟨e1, e2⟩ | ⟨e1, e2⟩
    · exact ⟨hb.aside hra h.bu.lwB e1, e2⟩
    · exact ⟨hb.new h.bu hra e1 e2, by omega⟩
  exact ⟨hb.bu h.bu hra (fun g e => by have := (hr g e).2; omega), hb.fb h.fb hra h.bu.lwB (fun g e => by have := (hr g e).2; omega), hb.aside hra h.bu.lwB h.as_, (c 0).trans h.ptr, (c 1).trans h.c1, (c 2).trans h.c2, (f 1).trans h.z1, (f 2).trans h.z2, h1, h2,
    fun g e => both g (k1 g e), fun g e => both g (k2 g e), ap, h.lb, Nat.le_trans h.nn hb.size, h.w0,
    own_keep1 h.rq (fun g hg => hb.block g (h.aq g hg).1.lt (fun e => by have := (hr g e.symm).2; have := (h.aq g hg).2; omega)), fun g hg => ⟨hb.aside hra h.bu.lwB (h.aq g hg).1, (h.aq g hg).2⟩⟩
theorem Ap.app1 {B base bw bm br N cq g c : Nat} {w W W' : World} {S1 S2 V1 V2 : Value} {l1 l2 : List Nat} {v : Nat} {Aq : Option Addr} {q o : List Nd} (h : Ap B base bw bm br N w S1 S2 V1 l1 V2 l2 Aq cq q o W) (hB : B ≤ N)
    (ho : W'.ownsRow (br + 1) 3 1 (.slice (some ⟨g, 0, none⟩) (l1.length + 1) c) (l1 ++ [v]).length (iv (l1 ++ [v]))) (hg : W.grownBy W' V1.ownBlock) (hr : V1.ownBlock = some g ∨ W.heap.size ≤ g) (hlt : g < W'.heap.size) :
    Ap B base bw bm br N w S1 S2 (.slice (some ⟨g, 0, none⟩) (l1.length + 1) c) (l1 ++ [v]) V2 l2 Aq cq q o W' := by
  refine h.but hB (But.of_grown hg) (fun k e => h.a1 k e) ho (own_keep1 h.r2 (fun k hk => hg.block k (h.a2 k hk).1.lt (fun e => h.ap k e.symm hk))) (fun k hk => ?_) (fun k hk => .inl (h.a2 k hk)) (fun k hk => ?_)
  · injection hk with hk
    subst hk
    rcases hr with e | e
    · exact .inl (h.a1 _ e)
    · exact .inr ⟨e, hlt⟩
  · injection hk with hk
    subst hk
    intro e2
    rcases hr with e | e
    · exact h.ap _ e e2
    · have := (h.a2 _ e2).1.lt
      dsimp only at this
      omega
theorem Ap.app2 {B base bw bm br N cq g c : Nat} {w W W' : World} {S1 S2 V1 V2 : Value} {l1 l2 : List Nat} {v : Nat} {Aq : Option Addr} {q o : List Nd} (h : Ap B base bw bm br N w S1 S2 V1 l1 V2 l2 Aq cq q o W) (hB : B ≤ N)
    (ho : W'.ownsRow (br + 1) 3 1 (.slice (some ⟨g, 0, none⟩) (l2.length + 1) c) (l2 ++ [v]).length (iv (l2 ++ [v]))) (hg : W.grownBy W' V2.ownBlock) (hr : V2.ownBlock = some g ∨ W.heap.size ≤ g) (hlt : g < W'.heap.size) :
    Ap B base bw bm br N w S1 S2 V1 l1 (.slice (some ⟨g, 0, none⟩) (l2.length + 1) c) (l2 ++ [v]) Aq cq q o W' := by
  refine h.but hB (But.of_grown hg) (fun k e => h.a2 k e) (own_keep1 h.r1 (fun k hk => hg.block k (h.a1 k hk).1.lt (fun e => h.ap k hk e.symm))) ho (fun k hk => .inl (h.a1 k hk)) (fun k hk => ?_) (fun k hk e2 => ?_)
  · injection hk with hk
    subst hk
    rcases hr with e | e
    · exact .inl (h.a2 _ e)
    · exact .inr ⟨e, hlt⟩
  · injection e2 with e2
    subst e2
    rcases hr with e | e
    · exact h.ap _ hk e
    · have := (h.a1 _ hk).1.lt
      dsimp only at this
      omega
/-- the two rows are laid into the normalizer -/
theorem Ap.store {B base bw bm br N cq : Nat} {w W : World} {S1 S2 V1 V2 : Value} {l1 l2 : List Nat} {Aq : Option Addr} {q o : List Nd} (h : Ap B base bw bm br N w S1 S2 V1 l1 V2 l2 Aq cq q o W) (hB : B ≤ br) :
    Ap B base bw bm br N w V1 V2 V1 l1 V2 l2 Aq cq q o ((W.setCell ⟨br, 1, none⟩ V1).setCell ⟨br, 2, none⟩ V2) := by
  have hlb := h.lb
  have n1 := h.as_.n1
  have b1 : But (some br) W ((W.setCell ⟨br, 1, none⟩ V1).setCell ⟨br, 2, none⟩ V2) := ⟨rfl, rfl, rfl, by simp, fun k _ hn => (Below.heap_setCell _ _ _ _ (fun e => hn (by rw [e]))).trans (Below.heap_setCell _ _ _ _ (fun e => hn (by rw [e])))⟩
  have hra : ∀ g, some br = some g → AsideB W bw bm g := fun g e => by injection e with e; subst e; exact h.as_
  have d0 : ∀ (W2 : World) (j : Nat) (v : Value) (k : Nat), j ≠ k → (W2.setCell ⟨br, j, none⟩ v).cell? ⟨br, k, none⟩ = W2.cell? ⟨br, k, none⟩ := fun W2 j v k hjk => World.cell?_setCell_other _ _ _ _ (fun e2 => by have h9 := congrArg Addr.off e2; dsimp only at h9; omega)
  refine ⟨b1.bu h.bu hra (fun g e => by injection e with e; omega), b1.fb h.fb hra h.bu.lwB (fun g e => by injection e with e; have := h.w0; omega), b1.aside hra h.bu.lwB h.as_, ?_, ?_, ?_, ?_, ?_, ?_, ?_, fun g hg => ⟨b1.aside hra h.bu.lwB (h.a1 g hg).1, (h.a1 g hg).2⟩, fun g hg => ⟨b1.aside hra h.bu.lwB (h.a2 g hg).1, (h.a2 g hg).2⟩, h.ap, h.lb, by have := h.nn; simpa using this, h.w0, ?_, fun g hg => ⟨b1.aside hra h.bu.lwB (h.aq g hg).1, (h.aq g hg).2⟩⟩
  · rw [d0 _ 2 _ 0 (by decide), d0 _ 1 _ 0 (by decide)]; exact h.ptr
  · rw [d0 _ 2 _ 1 (by decide)]; exact World.cell?_setCell_same _ _ _ h.c1
  · exact World.cell?_setCell_same _ _ _ ((d0 _ 1 _ 2 (by decide)).trans h.c2)
  · rw [World.frozen?_setCell, World.frozen?_setCell]; exact h.z1
  · rw [World.frozen?_setCell, World.frozen?_setCell]; exact h.z2
  · exact ownsRow_setCell_below (ownsRow_setCell_below h.r1 (by show br < br + 1; omega) _) (by show br < br + 1; omega) _
  · exact ownsRow_setCell_below (ownsRow_setCell_below h.r2 (by show br < br + 1; omega) _) (by show br < br + 1; omega) _
  · exact ownsRow_setCell_below (ownsRow_setCell_below h.rq (by show br < br + 1; omega) _) (by show br < br + 1; omega) _
theorem Ap.no {B base bw bm br N cq c1 c2 : Nat} {w W : World} {A1 A2 : Option Addr} {l1 l2 : List Nat} {Aq : Option Addr} {q o : List Nd} (h : Ap B base bw bm br N w (.slice A1 l1.length c1) (.slice A2 l2.length c2) (.slice A1 l1.length c1) l1 (.slice A2 l2.length c2) l2 Aq cq q o W) :
    No B base bw bm br (br + 1) A1 c1 A2 c2 W ⟨l1, l2, o⟩ :=
  ⟨h.bu, h.as_, h.ptr, h.c1, h.c2, h.z1, h.z2, h.r1, h.r2, fun ad e => (h.a1 ad.block (by rw [e]; rfl)).1, fun ad e => (h.a2 ad.block (by rw [e]; rfl)).1, fun a b e1 e2 e3 => h.ap a.block (by rw [e1]; rfl) (by rw [e2, e3]; rfl), Nat.lt_succ_self _⟩
end Go.Proofs.YtkkkomkljpolbaaDoor
