/- Layer 6: texts joined: Gj Gja Gjb Gjc. -/
import Derived.Test.YtkkkomkljpolbaaDoorMRf
/- Layer 8: the normalizer. -/
namespace Go.Proofs.YtkkkomkljpolbaaDoor
open Go.RowKit Go.Proofs.Ws Go.Maps
set_option maxRecDepth 100000
/-- the normalizer at block br: its builder, the forms, those of the negations -/
structure No (B base bw bm br b2 : Nat) (Af : Option Addr) (cf : Nat) (An : Option Addr) (cn : Nat) (W : World) (s : NS) : Prop where
  bu : Bu B base bw bm W s.o
  as_ : AsideB W bw bm br
  ptr : W.cell? ⟨br, 0, none⟩ = some (.pointer (some ⟨bw, 0, none⟩))
  c1 : W.cell? ⟨br, 1, none⟩ = some (.slice Af s.fo.length cf)
  c2 : W.cell? ⟨br, 2, none⟩ = some (.slice An s.ne.length cn)
  z1 : W.frozen? ⟨br, 1, none⟩ = false
  z2 : W.frozen? ⟨br, 2, none⟩ = false
  rf : W.ownsRow b2 3 1 (.slice Af s.fo.length cf) s.fo.length (iv s.fo)
  rn : W.ownsRow b2 3 1 (.slice An s.ne.length cn) s.ne.length (iv s.ne)
  af : ∀ ad, Af = some ad → AsideB W bw bm ad.block
  an : ∀ ad, An = some ad → AsideB W bw bm ad.block
  ap : ∀ a b, Af = some a → An = some b → a.block ≠ b.block
  bb : br < b2
theorem No.next {B base bw bm br b2 cf cn : Nat} {Af An : Option Addr} {W W' : World} {s : NS} {o' : List Nd} (h : No B base bw bm br b2 Af cf An cn W s) (hS : Bu B base bw bm W' o') (hF : Fb bw bm W W') : No B base bw bm br b2 Af cf An cn W' ⟨s.fo, s.ne, o'⟩ := by
  obtain ⟨e, ha⟩ := h.as_.step hF
  have c := fun j => World.cell?_of_block (a := ⟨br, j, none⟩) e
  have f := fun j => World.frozen?_of_block (a := ⟨br, j, none⟩) e
  refine ⟨hS, ha, (c 0).trans h.ptr, (c 1).trans h.c1, (c 2).trans h.c2, (f 1).trans h.z1, (f 2).trans h.z2, own_keep1 h.rf (fun g hg => ?_), own_keep1 h.rn (fun g hg => ?_), fun ad e => ((h.af ad e).step hF).2, fun ad e => ((h.an ad e).step hF).2, h.ap, h.bb⟩
  · cases Af with
    | none => cases hg
    | some ad => injection hg with hg; subst hg; exact ((h.af ad rfl).step hF).1
  · cases An with
    | none => cases hg
    | some ad => injection hg with hg; subst hg; exact ((h.an ad rfl).step hF).1
theorem No.below {B base bw bm br b2 cf cn : Nat} {Af An : Option Addr} {W W' : World} {s : NS} (h : No B base bw bm br b2 Af cf An cn W s) (hb : Below W.heap.size W W') : No B base bw bm br b2 Af cf An cn W' s :=
  h.next (h.bu.below hb) (Fb.of_below hb h.bu.lwB)
theorem No.drew {B base bw bm br b2 cf cn : Nat} {Af An : Option Addr} {W : World} {s : NS} (h : No B base bw bm br b2 Af cf An cn W s) : No B base bw bm br b2 Af cf An cn W.drew s := h.below (Below.refl _ W).drew
/-- a node over the places so far -/
structure FIn (s : NS) (n : Nd) : Prop where
  kn : known n.op = true
  lf : s.ne.length = s.fo.length
  x : usesX n.op = true → 0 ≤ n.x ∧ n.x.toNat < s.fo.length
  y : usesY n.op = true → 0 ≤ n.y ∧ n.y.toNat < s.fo.length
  x0 : ¬ usesX n.op = true → n.x = 0
  y0 : ¬ usesY n.op = true → n.y = 0
  pf : ∀ j, j < s.fo.length → s.fo.getD j 0 < s.o.length
  pn : ∀ j, j < s.ne.length → s.ne.getD j 0 < s.o.length
  w : NdW n
  few : s.o.length ≤ 900000
theorem FIn.more {s : NS} {n : Nd} (h : FIn s n) {o' : List Nd} (hl : s.o.length ≤ o'.length) (hm : o'.length ≤ 900000) : FIn ⟨s.fo, s.ne, o'⟩ n :=
  ⟨h.kn, h.lf, h.x, h.y, h.x0, h.y0, fun j hj => Nat.lt_of_lt_of_le (h.pf j hj) hl, fun j hj => Nat.lt_of_lt_of_le (h.pn j hj) hl, h.w, hm⟩
theorem wOps_in {o : List Nd} {n : Nd} {nu : List Nat} (kn : known n.op = true) (w : NdW n) (hx : usesX n.op = true → 0 ≤ n.x ∧ n.x.toNat < nu.length) (hy : usesY n.op = true → 0 ≤ n.y ∧ n.y.toNat < nu.length) (x0 : ¬ usesX n.op = true → n.x = 0) (y0 : ¬ usesY n.op = true → n.y = 0)
    (pl : ∀ j, j < nu.length → nu.getD j 0 < o.length) (hm : o.length ≤ 1000000) : NodeIn o (wOps n nu) := by
  have ex : 0 ≤ (wOps n nu).x ∧ (wOps n nu).x ≤ 1000000 ∧ (if usesX n.op = true then 0 ≤ (wOps n nu).x ∧ (wOps n nu).x < (o.length : Int) else (wOps n nu).x = 0) := by
    unfold wOps
    dsimp only
    by_cases k : usesX n.op = true
    · rw [if_pos k, if_pos k]; have := pl _ (hx k).2; omega
    · rw [if_neg k, if_neg k]; have := x0 k; omega
  have ey : 0 ≤ (wOps n nu).y ∧ (wOps n nu).y ≤ 1000000 ∧ (if usesY n.op = true then 0 ≤ (wOps n nu).y ∧ (wOps n nu).y < (o.length : Int) else (wOps n nu).y = 0) := by
    unfold wOps
    dsimp only
    by_cases k : usesY n.op = true
    · rw [if_pos k, if_pos k]; have := pl _ (hy k).2; omega
    · rw [if_neg k, if_neg k]; have := y0 k; omega
  exact ⟨kn, ⟨ex.2.2, ey.2.2⟩, ⟨w.op, w.i, w.e, w.g, WalkArith.wf_i64 (by have := ex.1; have := ex.2.1; omega), WalkArith.wf_i64 (by have := ey.1; have := ey.2.1; omega)⟩⟩
theorem FIn.node {s : NS} {n : Nd} (h : FIn s n) : NodeIn s.o (wOps n s.fo) := wOps_in h.kn h.w h.x h.y h.x0 h.y0 h.pf (by have := h.few; omega)
theorem dual_known {op : Int} (h : dualOf op ≠ 0) : known (dualOf op) = true := by
  unfold dualOf at h ⊢
  by_cases h1 : op = 1
  · subst h1; decide
  by_cases h2 : op = 2
  · subst h2; decide
  by_cases h3 : op = 5
  · subst h3; decide
  by_cases h4 : op = 6
  · subst h4; decide
  by_cases h5 : op = 9
  · subst h5; decide
  by_cases h6 : op = 10
  · subst h6; decide
  rw [if_neg h1, if_neg h2, if_neg h3, if_neg h4, if_neg h5, if_neg h6] at h
  exact absurd rfl h
theorem FIn.dual {s : NS} {n : Nd} (h : FIn s n) (hd : dualOf n.op ≠ 0) : NodeIn s.o (wOps (dN n) s.ne) := by
  obtain ⟨e1, e2⟩ := dual_uses hd
  have hl := h.lf
  refine wOps_in (n := dN n) (dual_known hd) ⟨w_op (dual_known hd), h.w.i, h.w.e, h.w.g, h.w.x, h.w.y⟩ (fun k => ?_) (fun k => ?_) (fun k => ?_) (fun k => ?_) h.pn (by have := h.few; omega)
  · have k2 : usesX (dualOf n.op) = true := k
    have := h.x (e1 ▸ k2)
    exact ⟨this.1, by show n.x.toNat < _; omega⟩
  · have k2 : usesY (dualOf n.op) = true := k
    have := h.y (e2 ▸ k2)
    exact ⟨this.1, by show n.y.toNat < _; omega⟩
  · have k2 : ¬ usesX (dualOf n.op) = true := k
    exact h.x0 (fun u => k2 (e1.symm ▸ u))
  · have k2 : ¬ usesY (dualOf n.op) = true := k
    exact h.y0 (fun u => k2 (e2.symm ▸ u))
/-- what a step of the normalizer gives -/
def NoOk (B base bw bm br b2 : Nat) (Af : Option Addr) (cf : Nat) (An : Option Addr) (cn : Nat) (W : World) (s : NS) (p : Nat × List Nd) (e : Ending) (w' : World) : Prop :=
  e = .returned (.int .i64 (p.1 : Nat)) ∧ Hid (No B base bw bm br b2 Af cf An cn w' ⟨s.fo, s.ne, p.2⟩) ∧ Hid (Fb bw bm W w')
/-- the places of the two operands -/
theorem No.elF {B base bw bm br b2 cf cn : Nat} {Af An : Option Addr} {W : World} {s : NS} (h : No B base bw bm br b2 Af cf An cn W s) {k : Nat} (hk : k < s.fo.length) : ∃ ad, Af = some ad ∧ W.cell? (ad.add k) = some (.int .i64 ((s.fo.getD k 0 : Nat) : Int)) := by
  obtain ⟨ad, h1, _, h2⟩ := iv_read (Reads.of_own h.rf) hk
  exact ⟨ad, h1, h2⟩
theorem No.elN {B base bw bm br b2 cf cn : Nat} {Af An : Option Addr} {W : World} {s : NS} (h : No B base bw bm br b2 Af cf An cn W s) {k : Nat} (hk : k < s.ne.length) : ∃ ad, An = some ad ∧ W.cell? (ad.add k) = some (.int .i64 ((s.ne.getD k 0 : Nat) : Int)) := by
  obtain ⟨ad, h1, _, h2⟩ := iv_read (Reads.of_own h.rn) hk
  exact ⟨ad, h1, h2⟩
/-- what is read in a region: the normalizer's fields, the node's box, the places of the operands -/
def Lim (W : World) (bw br gx : Nat) (af an : Addr) (lf cf ln cn : Nat) (n : Nd) (kx ky xp xn yp yn : Nat) : Prop :=
  W.cell? ⟨br, 0, none⟩ = some (.pointer (some ⟨bw, 0, none⟩)) ∧ W.cell? ⟨br, 1, none⟩ = some (.slice (some af) lf cf) ∧ W.cell? ⟨br, 2, none⟩ = some (.slice (some an) ln cn) ∧
  W.cell? ⟨gx, 4, none⟩ = some (.int .i64 n.x) ∧ W.cell? ⟨gx, 5, none⟩ = some (.int .i64 n.y) ∧ W.cell? (af.add kx) = some (.int .i64 (xp : Int)) ∧ W.cell? (an.add kx) = some (.int .i64 (xn : Int)) ∧ W.cell? (af.add ky) = some (.int .i64 (yp : Int)) ∧ W.cell? (an.add ky) = some (.int .i64 (yn : Int))
theorem No.lim {B base bw bm br b2 cf cn gx kx ky : Nat} {af an : Addr} {W : World} {s : NS} {n : Nd} (h : No B base bw bm br b2 (some af) cf (some an) cn W s) (hb : Box W gx n) (hf : s.ne.length = s.fo.length) (hx : kx < s.fo.length) (hy : ky < s.fo.length) :
    Lim W bw br gx af an s.fo.length cf s.ne.length cn n kx ky (s.fo.getD kx 0) (s.ne.getD kx 0) (s.fo.getD ky 0) (s.ne.getD ky 0) := by
  obtain ⟨a1, e1, h1⟩ := h.elF hx
  obtain ⟨a2, e2, h2⟩ := h.elN (k := kx) (by omega)
  obtain ⟨a3, e3, h3⟩ := h.elF hy
  obtain ⟨a4, e4, h4⟩ := h.elN (k := ky) (by omega)
  injection e1 with e1
  injection e2 with e2
  injection e3 with e3
  injection e4 with e4
  subst e1 e2
  rw [← e3] at h3
  rw [← e4] at h4
  exact ⟨h.ptr, h.c1, h.c2, hb.2.2.2.2.1, hb.2.2.2.2.2.1, h1, h2, h3, h4⟩
/-- a call on the builder -/
def NoKeep (B base bw bm br b2 : Nat) (af : Addr) (cf : Nat) (an : Addr) (cn : Nat) (W : World) (s : NS) (gx : Nat) (n : Nd) (kx ky : Nat) (p : Nat × List Nd) (e : Ending) (w' : World) : Prop :=
  e = .returned (.int .i64 (p.1 : Nat)) ∧ Hid (No B base bw bm br b2 (some af) cf (some an) cn w' ⟨s.fo, s.ne, p.2⟩) ∧ Hid (Fb bw bm W w') ∧ Hid (AsideB w' bw bm gx) ∧ Hid (Box w' gx n) ∧ Lim w' bw br gx af an s.fo.length cf s.ne.length cn n kx ky (s.fo.getD kx 0) (s.ne.getD kx 0) (s.fo.getD ky 0) (s.ne.getD ky 0)
theorem NoKeep.join {B base bw bm br b2 cf cn gx kx ky : Nat} {af an : Addr} {W0 W : World} {s : NS} {n : Nd} (h : Hid (No B base bw bm br b2 (some af) cf (some an) cn W s)) (hF : Hid (Fb bw bm W0 W)) (ha : Hid (AsideB W bw bm gx)) (hb : Hid (Box W gx n)) (hf : s.ne.length = s.fo.length) (hx : kx < s.fo.length) (hy : ky < s.fo.length)
    {op : Int} {x y : Nat} (hn : NodeIn s.o (jN op x y)) (hm : s.o.length ≤ 1000000) :
    Calls Tryd.prog 132 #[.pointer (some ⟨bw, 0, none⟩), .int .i64 op, .int .i64 (x : Int), .int .i64 (y : Int)] W (NoKeep B base bw bm br b2 af cf an cn W0 s gx n kx ky (jPut s.o op x y)) :=
  (bJoin_any h.out.bu hn hm).mono (fun e w' ⟨h1, h2, h3⟩ => by
    have hN := h.out.next h2 h3
    have hs := ha.out.step h3
    have hB := hb.out.keep hs.1
    exact ⟨h1, Lib.hid hN, Lib.hid (hF.out.trans h3), Lib.hid hs.2, Lib.hid hB, hN.lim hB hf hx hy⟩)
theorem AsideB.drew {W : World} {bw bm g : Nat} (h : AsideB W bw bm g) : AsideB W.drew bw bm g := ⟨h.lt, h.n1, h.n3, h.row⟩
end Go.Proofs.YtkkkomkljpolbaaDoor
/- Layer 8: the normalizer, the forms. -/
namespace Go.Proofs.YtkkkomkljpolbaaDoor
open Go.RowKit Go.Proofs.Ws Go.Maps
set_option maxRecDepth 100000
set_option maxHeartbeats 4000000 in
theorem form_4 {B base bw bm br b2 cf cn : Nat} {Af An : Option Addr} {W : World} {s : NS} (h : No B base bw bm br b2 Af cf An cn W s) (i e g : Int) (kx ky : Nat) (hi : FIn s ⟨4, i, e, g, (kx : Int), (ky : Int)⟩) :
    Calls Tryd.prog 78 #[.pointer (some ⟨br, 0, none⟩), nv ⟨4, i, e, g, (kx : Int), (ky : Int)⟩] W (NoOk B base bw bm br b2 Af cf An cn W s (nfPosP s.o ⟨4, i, e, g, (kx : Int), (ky : Int)⟩ (wOps ⟨4, i, e, g, (kx : Int), (ky : Int)⟩ s.fo) (s.fo.getD kx 0) (s.ne.getD kx 0) (s.fo.getD ky 0) (s.ne.getD ky 0))) := by
  have HS0 : Hid (No B base bw bm br b2 Af cf An cn (W.alloc (.cells #[.int .i64 4, .int .i64 i, .int .i64 e, .int .i64 g, .int .i64 (kx : Int), .int .i64 (ky : Int)] 62)) s) := Lib.hid (h.below ((Below.refl _ W).alloc (Nat.le_refl _) _))
  have HF0 : Hid (Fb bw bm W (W.alloc (.cells #[.int .i64 4, .int .i64 i, .int .i64 e, .int .i64 g, .int .i64 (kx : Int), .int .i64 (ky : Int)] 62))) := Lib.hid (Fb.of_below ((Below.refl _ W).alloc (Nat.le_refl _) _) h.bu.lwB)
  have HBX0 : Hid (Box (W.alloc (.cells #[.int .i64 4, .int .i64 i, .int .i64 e, .int .i64 g, .int .i64 (kx : Int), .int .i64 (ky : Int)] 62)) W.heap.size ⟨4, i, e, g, (kx : Int), (ky : Int)⟩) := Lib.hid (Box.made W ⟨4, i, e, g, (kx : Int), (ky : Int)⟩ 62)
  have HA0 := Lib.hid (AsideB.new (g := W.heap.size) h.bu.st ((Below.refl _ W).alloc (Nat.le_refl _) (.cells #[.int .i64 4, .int .i64 i, .int .i64 e, .int .i64 g, .int .i64 (kx : Int), .int .i64 (ky : Int)] 62)) (Nat.le_refl _) (by simp))
  have HI := Lib.hid hi
  clear h hi
  unfold nv
  have HR : Hid (nfPosP s.o ⟨4, i, e, g, (kx : Int), (ky : Int)⟩ (wOps ⟨4, i, e, g, (kx : Int), (ky : Int)⟩ s.fo) (s.fo.getD kx 0) (s.ne.getD kx 0) (s.fo.getD ky 0) (s.ne.getD ky 0) = (s.ne.getD kx 0, s.o)) := Lib.hid (by unfold nfPosP; simp)
  rw [HR.out]
  clear HR
  have hx1 : kx < s.fo.length := by have := (HI.out.x (show usesX 4 = true by decide)).2; simpa using this
  have hy1 : ky < s.fo.length := by have := HI.out.y0 (show ¬ usesY 4 = true by decide); have h9 : (ky : Int) = 0 := this; omega
  have hlf := HI.out.lf
  obtain ⟨af, hAf, _⟩ := HS0.out.elF hx1
  obtain ⟨an, hAn, _⟩ := HS0.out.elN (k := kx) (by omega)
  subst hAf hAn
  have px := HI.out.pf kx hx1
  have py := HI.out.pf ky hy1
  have qx := HI.out.pn kx (by omega)
  have qy := HI.out.pn ky (by omega)
  have HM : Hid (s.o.length ≤ 900000) := Lib.hid HI.out.few
  have HL0 := Lib.hid (HS0.out.lim HBX0.out hlf hx1 hy1)
  have HXY := Lib.hid (And.intro hlf (And.intro hx1 hy1))
  have hlm := HL0.out
  unfold Lim at hlm
  clear hlf hx1 hy1
  generalize hxp : s.fo.getD kx 0 = xp at *
  generalize hyp : s.fo.getD ky 0 = yp at *
  generalize hxn : s.ne.getD kx 0 = xn at *
  generalize hyn : s.ne.getD ky 0 = yn at *
  have HG := Lib.hid (And.intro hxp (And.intro hyp (And.intro hxn hyn)))
  clear hxp hyp hxn hyn
  have HP := Lib.hid (And.intro px (And.intro py (And.intro qx qy)))
  clear px py qx qy
  have HXL : Hid (kx < s.fo.length ∧ ky < s.fo.length ∧ kx < s.ne.length ∧ ky < s.ne.length) := Lib.hid (by have := HXY.out; omega)
  obtain ⟨hl1, hl2, hl3, hl4⟩ := HXL.out
  generalize hlfe : s.fo.length = lf at *
  generalize hlne : s.ne.length = ln at *
  have HLE := Lib.hid (And.intro hlfe hlne)
  clear hlfe hlne
  obtain ⟨l0, l1, l2, l3, l4, l5, l6, l7, l8⟩ := hlm
  dsimp only at l3 l4
  go_enter Tryd.func78, Tryd.ntmps78
  go_wp2_with fail
  generalize W.alloc (.cells #[.int .i64 4, .int .i64 i, .int .i64 e, .int .i64 g, .int .i64 (kx : Int), .int .i64 (ky : Int)] 62) = w0 at *
  generalize W.heap.size = gx at *
  obtain ⟨b0, b1, b2', b3, b4, b5, bf⟩ := HBX0.out
  dsimp only at b0 b1 b2' b3 b4 b5
  clear bf
  go_quiet (fail)
  go_wp2
  go_ret
  exact ⟨rfl, Lib.hid (HS0.out.below (below_drewN (Below.refl _ _) _)), Lib.hid (HF0.out.drewN _)⟩
set_option maxHeartbeats 4000000 in
theorem form_7 {B base bw bm br b2 cf cn : Nat} {Af An : Option Addr} {W : World} {s : NS} (h : No B base bw bm br b2 Af cf An cn W s) (i e g : Int) (kx ky : Nat) (hi : FIn s ⟨7, i, e, g, (kx : Int), (ky : Int)⟩) :
    Calls Tryd.prog 78 #[.pointer (some ⟨br, 0, none⟩), nv ⟨7, i, e, g, (kx : Int), (ky : Int)⟩] W (NoOk B base bw bm br b2 Af cf An cn W s (nfPosP s.o ⟨7, i, e, g, (kx : Int), (ky : Int)⟩ (wOps ⟨7, i, e, g, (kx : Int), (ky : Int)⟩ s.fo) (s.fo.getD kx 0) (s.ne.getD kx 0) (s.fo.getD ky 0) (s.ne.getD ky 0))) := by
  have HS0 : Hid (No B base bw bm br b2 Af cf An cn (W.alloc (.cells #[.int .i64 7, .int .i64 i, .int .i64 e, .int .i64 g, .int .i64 (kx : Int), .int .i64 (ky : Int)] 62)) s) := Lib.hid (h.below ((Below.refl _ W).alloc (Nat.le_refl _) _))
  have HF0 : Hid (Fb bw bm W (W.alloc (.cells #[.int .i64 7, .int .i64 i, .int .i64 e, .int .i64 g, .int .i64 (kx : Int), .int .i64 (ky : Int)] 62))) := Lib.hid (Fb.of_below ((Below.refl _ W).alloc (Nat.le_refl _) _) h.bu.lwB)
  have HBX0 : Hid (Box (W.alloc (.cells #[.int .i64 7, .int .i64 i, .int .i64 e, .int .i64 g, .int .i64 (kx : Int), .int .i64 (ky : Int)] 62)) W.heap.size ⟨7, i, e, g, (kx : Int), (ky : Int)⟩) := Lib.hid (Box.made W ⟨7, i, e, g, (kx : Int), (ky : Int)⟩ 62)
  have HA0 := Lib.hid (AsideB.new (g := W.heap.size) h.bu.st ((Below.refl _ W).alloc (Nat.le_refl _) (.cells #[.int .i64 7, .int .i64 i, .int .i64 e, .int .i64 g, .int .i64 (kx : Int), .int .i64 (ky : Int)] 62)) (Nat.le_refl _) (by simp))
  have HI := Lib.hid hi
  clear h hi
  unfold nv
  have HR : Hid (nfPosP s.o ⟨7, i, e, g, (kx : Int), (ky : Int)⟩ (wOps ⟨7, i, e, g, (kx : Int), (ky : Int)⟩ s.fo) (s.fo.getD kx 0) (s.ne.getD kx 0) (s.fo.getD ky 0) (s.ne.getD ky 0) = jPut s.o 6 (s.ne.getD kx 0) (s.fo.getD ky 0)) := Lib.hid (by unfold nfPosP; simp)
  rw [HR.out]
  clear HR
  have hx1 : kx < s.fo.length := by have := (HI.out.x (show usesX 7 = true by decide)).2; simpa using this
  have hy1 : ky < s.fo.length := by have := (HI.out.y (show usesY 7 = true by decide)).2; simpa using this
  have hlf := HI.out.lf
  obtain ⟨af, hAf, _⟩ := HS0.out.elF hx1
  obtain ⟨an, hAn, _⟩ := HS0.out.elN (k := kx) (by omega)
  subst hAf hAn
  have px := HI.out.pf kx hx1
  have py := HI.out.pf ky hy1
  have qx := HI.out.pn kx (by omega)
  have qy := HI.out.pn ky (by omega)
  have HM : Hid (s.o.length ≤ 900000) := Lib.hid HI.out.few
  have HL0 := Lib.hid (HS0.out.lim HBX0.out hlf hx1 hy1)
  have HXY := Lib.hid (And.intro hlf (And.intro hx1 hy1))
  have hlm := HL0.out
  unfold Lim at hlm
  have C1 := Lib.hid (NoKeep.join (W0 := W) (W := (W.alloc (.cells #[.int .i64 7, .int .i64 i, .int .i64 e, .int .i64 g, .int .i64 (kx : Int), .int .i64 (ky : Int)] 62)).drew) (gx := W.heap.size) (kx := kx) (ky := ky) (n := ⟨7, i, e, g, (kx : Int), (ky : Int)⟩) (Lib.hid HS0.out.drew) (Lib.hid HF0.out.drew) (Lib.hid HA0.out.drew) (Lib.hid HBX0.out.drew) hlf hx1 hy1 (op := 6) (x := (s.ne.getD kx 0)) (y := (s.fo.getD ky 0)) (jN_bin (by decide) (by omega) (by omega) (by have := HI.out.few; omega)) (by have := HI.out.few; omega))
  unfold NoKeep Lim at C1
  clear hlf hx1 hy1
  generalize hxp : s.fo.getD kx 0 = xp at *
  generalize hyp : s.fo.getD ky 0 = yp at *
  generalize hxn : s.ne.getD kx 0 = xn at *
  generalize hyn : s.ne.getD ky 0 = yn at *
  have HG := Lib.hid (And.intro hxp (And.intro hyp (And.intro hxn hyn)))
  clear hxp hyp hxn hyn
  have HP := Lib.hid (And.intro px (And.intro py (And.intro qx qy)))
  clear px py qx qy
  have HXL : Hid (kx < s.fo.length ∧ ky < s.fo.length ∧ kx < s.ne.length ∧ ky < s.ne.length) := Lib.hid (by have := HXY.out; omega)
  obtain ⟨hl1, hl2, hl3, hl4⟩ := HXL.out
  generalize hlfe : s.fo.length = lf at *
  generalize hlne : s.ne.length = ln at *
  have HLE := Lib.hid (And.intro hlfe hlne)
  clear hlfe hlne
  obtain ⟨l0, l1, l2, l3, l4, l5, l6, l7, l8⟩ := hlm
  dsimp only at l3 l4
  go_enter Tryd.func78, Tryd.ntmps78
  go_wp2_with fail
  generalize W.alloc (.cells #[.int .i64 7, .int .i64 i, .int .i64 e, .int .i64 g, .int .i64 (kx : Int), .int .i64 (ky : Int)] 62) = w0 at *
  generalize W.heap.size = gx at *
  obtain ⟨b0, b1, b2', b3, b4, b5, bf⟩ := HBX0.out
  dsimp only at b0 b1 b2' b3 b4 b5
  clear bf
  go_region_held3 (fun W' => (W'.cell? ⟨br, 0, none⟩ = some (.pointer (some ⟨bw, 0, none⟩)) ∧ W'.cell? ⟨br, 1, none⟩ = some (.slice (some af) lf cf) ∧ W'.cell? ⟨br, 2, none⟩ = some (.slice (some an) ln cn) ∧ W'.cell? ⟨gx, 4, none⟩ = some (.int .i64 (kx : Int)) ∧ W'.cell? ⟨gx, 5, none⟩ = some (.int .i64 (ky : Int)) ∧ W'.cell? (af.add kx) = some (.int .i64 (xp : Int)) ∧ W'.cell? (an.add kx) = some (.int .i64 (xn : Int)) ∧ W'.cell? (af.add ky) = some (.int .i64 (yp : Int)) ∧ W'.cell? (an.add ky) = some (.int .i64 (yn : Int)))) (first | assumption | (refine ⟨?_, ?_, ?_, ?_, ?_, ?_, ?_, ?_, ?_⟩ <;> assumption))
    (first | (go_at_call 132; refine (C1.out).mono ?_; rintro r' w1 ⟨rfl, h1, f1, a1, x1, v0, v1, v2, v3, v4, v5, v6, v7, v8⟩))
  all_goals go_wp2
  all_goals go_ret
  all_goals exact ⟨rfl, h1, f1⟩
end Go.Proofs.YtkkkomkljpolbaaDoor
/- Layer 8: the normalizer, the forms of an equivalence. -/
namespace Go.Proofs.YtkkkomkljpolbaaDoor
open Go.RowKit Go.Proofs.Ws Go.Maps
set_option maxRecDepth 100000
set_option maxHeartbeats 4000000 in
theorem form_8 {B base bw bm br b2 cf cn : Nat} {Af An : Option Addr} {W : World} {s : NS} (h : No B base bw bm br b2 Af cf An cn W s) (i e g : Int) (kx ky : Nat) (hi : FIn s ⟨8, i, e, g, (kx : Int), (ky : Int)⟩) :
    Calls Tryd.prog 78 #[.pointer (some ⟨br, 0, none⟩), nv ⟨8, i, e, g, (kx : Int), (ky : Int)⟩] W (NoOk B base bw bm br b2 Af cf An cn W s (nfPosP s.o ⟨8, i, e, g, (kx : Int), (ky : Int)⟩ (wOps ⟨8, i, e, g, (kx : Int), (ky : Int)⟩ s.fo) (s.fo.getD kx 0) (s.ne.getD kx 0) (s.fo.getD ky 0) (s.ne.getD ky 0))) := by
  have HS0 : Hid (No B base bw bm br b2 Af cf An cn (W.alloc (.cells #[.int .i64 8, .int .i64 i, .int .i64 e, .int .i64 g, .int .i64 (kx : Int), .int .i64 (ky : Int)] 62)) s) := Lib.hid (h.below ((Below.refl _ W).alloc (Nat.le_refl _) _))
  have HF0 : Hid (Fb bw bm W (W.alloc (.cells #[.int .i64 8, .int .i64 i, .int .i64 e, .int .i64 g, .int .i64 (kx : Int), .int .i64 (ky : Int)] 62))) := Lib.hid (Fb.of_below ((Below.refl _ W).alloc (Nat.le_refl _) _) h.bu.lwB)
  have HBX0 : Hid (Box (W.alloc (.cells #[.int .i64 8, .int .i64 i, .int .i64 e, .int .i64 g, .int .i64 (kx : Int), .int .i64 (ky : Int)] 62)) W.heap.size ⟨8, i, e, g, (kx : Int), (ky : Int)⟩) := Lib.hid (Box.made W ⟨8, i, e, g, (kx : Int), (ky : Int)⟩ 62)
  have HA0 := Lib.hid (AsideB.new (g := W.heap.size) h.bu.st ((Below.refl _ W).alloc (Nat.le_refl _) (.cells #[.int .i64 8, .int .i64 i, .int .i64 e, .int .i64 g, .int .i64 (kx : Int), .int .i64 (ky : Int)] 62)) (Nat.le_refl _) (by simp))
  have HI := Lib.hid hi
  clear h hi
  unfold nv
  have HR : Hid (nfPosP s.o ⟨8, i, e, g, (kx : Int), (ky : Int)⟩ (wOps ⟨8, i, e, g, (kx : Int), (ky : Int)⟩ s.fo) (s.fo.getD kx 0) (s.ne.getD kx 0) (s.fo.getD ky 0) (s.ne.getD ky 0) = jPut (jPut (jPut s.o 6 (s.ne.getD kx 0) (s.fo.getD ky 0)).2 6 (s.fo.getD kx 0) (s.ne.getD ky 0)).2 5 (jPut s.o 6 (s.ne.getD kx 0) (s.fo.getD ky 0)).1 (jPut (jPut s.o 6 (s.ne.getD kx 0) (s.fo.getD ky 0)).2 6 (s.fo.getD kx 0) (s.ne.getD ky 0)).1) := Lib.hid (by unfold nfPosP; simp)
  rw [HR.out]
  clear HR
  have hx1 : kx < s.fo.length := by have := (HI.out.x (show usesX 8 = true by decide)).2; simpa using this
  have hy1 : ky < s.fo.length := by have := (HI.out.y (show usesY 8 = true by decide)).2; simpa using this
  have hlf := HI.out.lf
  obtain ⟨af, hAf, _⟩ := HS0.out.elF hx1
  obtain ⟨an, hAn, _⟩ := HS0.out.elN (k := kx) (by omega)
  subst hAf hAn
  have px := HI.out.pf kx hx1
  have py := HI.out.pf ky hy1
  have qx := HI.out.pn kx (by omega)
  have qy := HI.out.pn ky (by omega)
  have HM : Hid (s.o.length ≤ 900000) := Lib.hid HI.out.few
  have HL0 := Lib.hid (HS0.out.lim HBX0.out hlf hx1 hy1)
  have HXY := Lib.hid (And.intro hlf (And.intro hx1 hy1))
  have hlm := HL0.out
  unfold Lim at hlm
  have C1 := Lib.hid (NoKeep.join (W0 := W) (W := (W.alloc (.cells #[.int .i64 8, .int .i64 i, .int .i64 e, .int .i64 g, .int .i64 (kx : Int), .int .i64 (ky : Int)] 62)).drew) (gx := W.heap.size) (kx := kx) (ky := ky) (n := ⟨8, i, e, g, (kx : Int), (ky : Int)⟩) (Lib.hid HS0.out.drew) (Lib.hid HF0.out.drew) (Lib.hid HA0.out.drew) (Lib.hid HBX0.out.drew) hlf hx1 hy1 (op := 6) (x := (s.ne.getD kx 0)) (y := (s.fo.getD ky 0)) (jN_bin (by decide) (by omega) (by omega) (by have := HI.out.few; omega)) (by have := HI.out.few; omega))
  unfold NoKeep Lim at C1
  have K1 := Lib.hid (put_facts s.o (jN 6 (s.ne.getD kx 0) (s.fo.getD ky 0)))
  have G1 : Hid ((jPut s.o 6 (s.ne.getD kx 0) (s.fo.getD ky 0)).1 < (jPut s.o 6 (s.ne.getD kx 0) (s.fo.getD ky 0)).2.length ∧ s.o.length ≤ (jPut s.o 6 (s.ne.getD kx 0) (s.fo.getD ky 0)).2.length ∧ (jPut s.o 6 (s.ne.getD kx 0) (s.fo.getD ky 0)).2.length ≤ s.o.length + 1) := K1
  have K2 := Lib.hid (put_facts (jPut s.o 6 (s.ne.getD kx 0) (s.fo.getD ky 0)).2 (jN 6 (s.fo.getD kx 0) (s.ne.getD ky 0)))
  have G2 : Hid ((jPut (jPut s.o 6 (s.ne.getD kx 0) (s.fo.getD ky 0)).2 6 (s.fo.getD kx 0) (s.ne.getD ky 0)).1 < (jPut (jPut s.o 6 (s.ne.getD kx 0) (s.fo.getD ky 0)).2 6 (s.fo.getD kx 0) (s.ne.getD ky 0)).2.length ∧ (jPut s.o 6 (s.ne.getD kx 0) (s.fo.getD ky 0)).2.length ≤ (jPut (jPut s.o 6 (s.ne.getD kx 0) (s.fo.getD ky 0)).2 6 (s.fo.getD kx 0) (s.ne.getD ky 0)).2.length ∧ (jPut (jPut s.o 6 (s.ne.getD kx 0) (s.fo.getD ky 0)).2 6 (s.fo.getD kx 0) (s.ne.getD ky 0)).2.length ≤ (jPut s.o 6 (s.ne.getD kx 0) (s.fo.getD ky 0)).2.length + 1) := K2
  clear K1 K2
  have C2 : Hid (∀ w1, Hid (No B base bw bm br b2 (some af) cf (some an) cn w1 ⟨s.fo, s.ne, (jPut s.o 6 (s.ne.getD kx 0) (s.fo.getD ky 0)).2⟩) → Hid (Fb bw bm W w1) → Hid (AsideB w1 bw bm W.heap.size) → Hid (Box w1 W.heap.size ⟨8, i, e, g, (kx : Int), (ky : Int)⟩) →
      Calls Tryd.prog 132 #[.pointer (some ⟨bw, 0, none⟩), .int .i64 6, .int .i64 ((s.fo.getD kx 0 : Nat) : Int), .int .i64 ((s.ne.getD ky 0 : Nat) : Int)] w1.drew (NoKeep B base bw bm br b2 af cf an cn W ⟨s.fo, s.ne, (jPut s.o 6 (s.ne.getD kx 0) (s.fo.getD ky 0)).2⟩ W.heap.size ⟨8, i, e, g, (kx : Int), (ky : Int)⟩ kx ky (jPut (jPut s.o 6 (s.ne.getD kx 0) (s.fo.getD ky 0)).2 6 (s.fo.getD kx 0) (s.ne.getD ky 0)))) := Lib.hid (fun w1 c1 c2 c3 c4 =>
    NoKeep.join (W0 := W) (W := w1.drew) (s := ⟨s.fo, s.ne, (jPut s.o 6 (s.ne.getD kx 0) (s.fo.getD ky 0)).2⟩) (gx := W.heap.size) (kx := kx) (ky := ky) (n := ⟨8, i, e, g, (kx : Int), (ky : Int)⟩) (Lib.hid c1.out.drew) (Lib.hid c2.out.drew) (Lib.hid c3.out.drew) (Lib.hid c4.out.drew) hlf hx1 hy1 (op := 6) (x := (s.fo.getD kx 0)) (y := (s.ne.getD ky 0)) (jN_bin (by decide) (by have := G1.out; dsimp only; omega) (by have := G1.out; dsimp only; omega) (by have := G1.out; have := HI.out.few; dsimp only; omega)) (by have := G1.out; have := HI.out.few; dsimp only; omega))
  unfold NoKeep Lim at C2
  clear hlf hx1 hy1
  generalize hxp : s.fo.getD kx 0 = xp at *
  generalize hyp : s.fo.getD ky 0 = yp at *
  generalize hxn : s.ne.getD kx 0 = xn at *
  generalize hyn : s.ne.getD ky 0 = yn at *
  have HG := Lib.hid (And.intro hxp (And.intro hyp (And.intro hxn hyn)))
  clear hxp hyp hxn hyn
  have HP := Lib.hid (And.intro px (And.intro py (And.intro qx qy)))
  clear px py qx qy
  have HXL : Hid (kx < s.fo.length ∧ ky < s.fo.length ∧ kx < s.ne.length ∧ ky < s.ne.length) := Lib.hid (by have := HXY.out; omega)
  obtain ⟨hl1, hl2, hl3, hl4⟩ := HXL.out
  generalize hlfe : s.fo.length = lf at *
  generalize hlne : s.ne.length = ln at *
  have HLE := Lib.hid (And.intro hlfe hlne)
  clear hlfe hlne
  obtain ⟨l0, l1, l2, l3, l4, l5, l6, l7, l8⟩ := hlm
  dsimp only at l3 l4
  go_enter Tryd.func78, Tryd.ntmps78
  go_wp2_with fail
  generalize W.alloc (.cells #[.int .i64 8, .int .i64 i, .int .i64 e, .int .i64 g, .int .i64 (kx : Int), .int .i64 (ky : Int)] 62) = w0 at *
  generalize W.heap.size = gx at *
  obtain ⟨b0, b1, b2', b3, b4, b5, bf⟩ := HBX0.out
  dsimp only at b0 b1 b2' b3 b4 b5
  clear bf
  generalize hp1 : jPut s.o 6 xn yp = p1 at *
  have HP1 := Lib.hid hp1
  clear hp1
  generalize hp2 : jPut p1.2 6 xp yn = p2 at *
  have HP2 := Lib.hid hp2
  clear hp2
  go_region_held3 (fun W' => (W'.cell? ⟨br, 0, none⟩ = some (.pointer (some ⟨bw, 0, none⟩)) ∧ W'.cell? ⟨br, 1, none⟩ = some (.slice (some af) lf cf) ∧ W'.cell? ⟨br, 2, none⟩ = some (.slice (some an) ln cn) ∧ W'.cell? ⟨gx, 4, none⟩ = some (.int .i64 (kx : Int)) ∧ W'.cell? ⟨gx, 5, none⟩ = some (.int .i64 (ky : Int)) ∧ W'.cell? (af.add kx) = some (.int .i64 (xp : Int)) ∧ W'.cell? (an.add kx) = some (.int .i64 (xn : Int)) ∧ W'.cell? (af.add ky) = some (.int .i64 (yp : Int)) ∧ W'.cell? (an.add ky) = some (.int .i64 (yn : Int)))) (first | assumption | (refine ⟨?_, ?_, ?_, ?_, ?_, ?_, ?_, ?_, ?_⟩ <;> assumption))
    (first | (go_at_call 132; refine (C1.out).mono ?_; rintro r' w1 ⟨rfl, h1, f1, a1, x1, v0, v1, v2, v3, v4, v5, v6, v7, v8⟩))
  clear b0 b1 b2' b3 b4 b5 l0 l1 l2 l3 l4 l5 l6 l7 l8
  go_wp2_with fail
  go_region_held3 (fun W' => (W'.cell? ⟨br, 0, none⟩ = some (.pointer (some ⟨bw, 0, none⟩)) ∧ W'.cell? ⟨br, 1, none⟩ = some (.slice (some af) lf cf) ∧ W'.cell? ⟨br, 2, none⟩ = some (.slice (some an) ln cn) ∧ W'.cell? ⟨gx, 4, none⟩ = some (.int .i64 (kx : Int)) ∧ W'.cell? ⟨gx, 5, none⟩ = some (.int .i64 (ky : Int)) ∧ W'.cell? (af.add kx) = some (.int .i64 (xp : Int)) ∧ W'.cell? (an.add kx) = some (.int .i64 (xn : Int)) ∧ W'.cell? (af.add ky) = some (.int .i64 (yp : Int)) ∧ W'.cell? (an.add ky) = some (.int .i64 (yn : Int)))) (first | assumption | (refine ⟨?_, ?_, ?_, ?_, ?_, ?_, ?_, ?_, ?_⟩ <;> assumption))
    (first | (go_at_call 132; refine (C2.out w1 h1 f1 a1 x1).mono ?_; rintro r' w2 ⟨rfl, h2, f2, a2, x2, u0, u1, u2, u3, u4, u5, u6, u7, u8⟩))
  clear v0 v1 v2 v3 v4 v5 v6 v7 v8
  go_wp2_with fail
  refine (bJoin_any h2.out.bu (op := 5) (x := p1.1) (y := p2.1) (jN_bin (by decide) (by have := G1.out; have := G2.out; dsimp only; omega) G2.out.1 (by have := G1.out; have := G2.out; have := HM.out; dsimp only; omega)) (by have := G1.out; have := G2.out; have := HM.out; dsimp only; omega)).mono ?_
  rintro r' w3 ⟨rfl, h3, f3⟩
  have H3 := Lib.hid (h2.out.next h3 f3)
  have F3 := Lib.hid (f2.out.trans f3)
  clear h3 f3
  go_wp2
  go_ret
  exact ⟨rfl, H3, F3⟩
end Go.Proofs.YtkkkomkljpolbaaDoor
/- Layer 8: the normalizer, the forms of other nodes. -/
namespace Go.Proofs.YtkkkomkljpolbaaDoor
open Go.RowKit Go.Proofs.Ws Go.Maps
set_option maxRecDepth 100000
set_option maxHeartbeats 4000000 in
theorem form_e {B base bw bm br b2 cf cn : Nat} {Af An : Option Addr} {W : World} {s : NS} (h : No B base bw bm br b2 Af cf An cn W s) (m : Nat) (h4 : ¬ (m : Int) = 4) (h7 : ¬ (m : Int) = 7) (h8 : ¬ (m : Int) = 8) (i e g : Int) (kx ky : Nat) (hi : FIn s ⟨(m : Int), i, e, g, (kx : Int), (ky : Int)⟩) :
    Calls Tryd.prog 78 #[.pointer (some ⟨br, 0, none⟩), nv ⟨(m : Int), i, e, g, (kx : Int), (ky : Int)⟩] W (NoOk B base bw bm br b2 Af cf An cn W s (nfPosP s.o ⟨(m : Int), i, e, g, (kx : Int), (ky : Int)⟩ (wOps ⟨(m : Int), i, e, g, (kx : Int), (ky : Int)⟩ s.fo) (s.fo.getD kx 0) (s.ne.getD kx 0) (s.fo.getD ky 0) (s.ne.getD ky 0))) := by
  have HS0 : Hid (No B base bw bm br b2 Af cf An cn (W.alloc (.cells #[.int .i64 (m : Int), .int .i64 i, .int .i64 e, .int .i64 g, .int .i64 (kx : Int), .int .i64 (ky : Int)] 62)) s) := Lib.hid (h.below ((Below.refl _ W).alloc (Nat.le_refl _) _))
  have HF0 : Hid (Fb bw bm W (W.alloc (.cells #[.int .i64 (m : Int), .int .i64 i, .int .i64 e, .int .i64 g, .int .i64 (kx : Int), .int .i64 (ky : Int)] 62))) := Lib.hid (Fb.of_below ((Below.refl _ W).alloc (Nat.le_refl _) _) h.bu.lwB)
  have HBX0 : Hid (Box (W.alloc (.cells #[.int .i64 (m : Int), .int .i64 i, .int .i64 e, .int .i64 g, .int .i64 (kx : Int), .int .i64 (ky : Int)] 62)) W.heap.size ⟨(m : Int), i, e, g, (kx : Int), (ky : Int)⟩) := Lib.hid (Box.made W ⟨(m : Int), i, e, g, (kx : Int), (ky : Int)⟩ 62)
  have HA0 := Lib.hid (AsideB.new (g := W.heap.size) h.bu.st ((Below.refl _ W).alloc (Nat.le_refl _) (.cells #[.int .i64 (m : Int), .int .i64 i, .int .i64 e, .int .i64 g, .int .i64 (kx : Int), .int .i64 (ky : Int)] 62)) (Nat.le_refl _) (by simp))
  have HI := Lib.hid hi
  clear h hi
  unfold nv
  have HR : Hid (nfPosP s.o ⟨(m : Int), i, e, g, (kx : Int), (ky : Int)⟩ (wOps ⟨(m : Int), i, e, g, (kx : Int), (ky : Int)⟩ s.fo) (s.fo.getD kx 0) (s.ne.getD kx 0) (s.fo.getD ky 0) (s.ne.getD ky 0) = putNd s.o (wOps ⟨(m : Int), i, e, g, (kx : Int), (ky : Int)⟩ s.fo)) := Lib.hid (by unfold nfPosP; simp [h4, h7, h8])
  rw [HR.out]
  clear HR
  have hc1 := HS0.out.c1
  have hp := HS0.out.ptr
  have HW := Lib.hid (wops_any ⟨(m : Int), i, e, g, (kx : Int), (ky : Int)⟩ s.fo Af s.fo.length cf B (W.alloc (.cells #[.int .i64 (m : Int), .int .i64 i, .int .i64 e, .int .i64 g, .int .i64 (kx : Int), .int .i64 (ky : Int)] 62)).drew (HS0.out.drew).bu.env (HS0.out.drew).bu.size HI.out.kn ((Reads.of_own (HS0.out.drew).rf)) (fun u => by have := HI.out.x u; dsimp only at this ⊢; omega) (fun u => by have := HI.out.y u; dsimp only at this ⊢; omega))
  have HNI := Lib.hid HI.out.node
  have HM : Hid (s.o.length ≤ 900000) := Lib.hid HI.out.few
  generalize wOps ⟨(m : Int), i, e, g, (kx : Int), (ky : Int)⟩ s.fo = z at *
  unfold nv at HW
  go_enter Tryd.func78, Tryd.ntmps78
  go_wp2_with fail
  generalize W.alloc (.cells #[.int .i64 (m : Int), .int .i64 i, .int .i64 e, .int .i64 g, .int .i64 (kx : Int), .int .i64 (ky : Int)] 62) = w0 at *
  generalize W.heap.size = gx at *
  obtain ⟨b0, b1, b2', b3, b4, b5, bf⟩ := HBX0.out
  dsimp only at b0 b1 b2' b3 b4 b5
  clear bf
  have HB0 : Hid (∀ W', Below w0.drew.heap.size w0.drew W' → W'.cell? ⟨br, 0, none⟩ = some (.pointer (some ⟨bw, 0, none⟩)) ∧ W'.cell? ⟨br, 1, none⟩ = some (.slice Af s.fo.length cf) ∧ Hid (AsideB W' bw bm gx) ∧ Hid (Box W' gx ⟨(m : Int), i, e, g, (kx : Int), (ky : Int)⟩)) := Lib.hid (fun W' hb => by
    have h1 := (HS0.out.drew).below hb
    have hF := Fb.of_below (bm := bm) hb (HS0.out.drew).bu.lwB
    have hs := (HA0.out.drew).step hF
    exact ⟨h1.ptr, h1.c1, Lib.hid hs.2, Lib.hid (HBX0.out.drew.keep hs.1)⟩)
  have CW : Hid (Calls Tryd.prog 119 #[.agg #[.int .i64 (m : Int), .int .i64 i, .int .i64 e, .int .i64 g, .int .i64 (kx : Int), .int .i64 (ky : Int)], .slice Af s.fo.length cf] w0.drew fun r w1 => r = .returned (.agg #[.int .i64 z.op, .int .i64 z.i, .int .i64 z.e, .int .i64 z.g, .int .i64 z.x, .int .i64 z.y]) ∧ Hid (No B base bw bm br b2 Af cf An cn w1 s) ∧ Hid (Fb bw bm W w1) ∧ Hid (AsideB w1 bw bm gx) ∧ Hid (Box w1 gx ⟨(m : Int), i, e, g, (kx : Int), (ky : Int)⟩) ∧ w1.cell? ⟨br, 0, none⟩ = some (.pointer (some ⟨bw, 0, none⟩)) ∧ w1.cell? ⟨br, 1, none⟩ = some (.slice Af s.fo.length cf) ∧
      w1.cell? ⟨gx, 0, none⟩ = some (.int .i64 (m : Int)) ∧ w1.cell? ⟨gx, 1, none⟩ = some (.int .i64 i) ∧ w1.cell? ⟨gx, 2, none⟩ = some (.int .i64 e) ∧ w1.cell? ⟨gx, 3, none⟩ = some (.int .i64 g) ∧ w1.cell? ⟨gx, 4, none⟩ = some (.int .i64 (kx : Int)) ∧ w1.cell? ⟨gx, 5, none⟩ = some (.int .i64 (ky : Int))) := Lib.hid ((HW.out).mono (fun r w1 ⟨hr, hb⟩ => by
    obtain ⟨k1, k2, k3, k4⟩ := HB0.out w1 hb
    obtain ⟨q0, q1, q2, q3, q4, q5, _⟩ := k4.out
    exact ⟨hr, Lib.hid ((HS0.out.drew).below hb), Lib.hid ((FbG.drew HF0.out).trans (Fb.of_below hb (HS0.out.drew).bu.lwB)), k3, k4, k1, k2, q0, q1, q2, q3, q4, q5⟩))
  have CA : Hid (∀ w1, Hid (No B base bw bm br b2 Af cf An cn w1 s) → Hid (Fb bw bm W w1) → Hid (AsideB w1 bw bm gx) → Hid (Box w1 gx ⟨(m : Int), i, e, g, (kx : Int), (ky : Int)⟩) → Calls Tryd.prog 82 #[.pointer (some ⟨bw, 0, none⟩), .agg #[.int .i64 z.op, .int .i64 z.i, .int .i64 z.e, .int .i64 z.g, .int .i64 z.x, .int .i64 z.y]] w1 fun r w2 => r = .returned (.int .i64 ((putNd s.o z).1 : Nat)) ∧ Hid (No B base bw bm br b2 Af cf An cn w2 ⟨s.fo, s.ne, (putNd s.o z).2⟩) ∧ Hid (Fb bw bm W w2) ∧ w2.cell? ⟨br, 0, none⟩ = some (.pointer (some ⟨bw, 0, none⟩)) ∧ w2.cell? ⟨br, 1, none⟩ = some (.slice Af s.fo.length cf) ∧
      w2.cell? ⟨gx, 0, none⟩ = some (.int .i64 (m : Int)) ∧ w2.cell? ⟨gx, 1, none⟩ = some (.int .i64 i) ∧ w2.cell? ⟨gx, 2, none⟩ = some (.int .i64 e) ∧ w2.cell? ⟨gx, 3, none⟩ = some (.int .i64 g) ∧ w2.cell? ⟨gx, 4, none⟩ = some (.int .i64 (kx : Int)) ∧ w2.cell? ⟨gx, 5, none⟩ = some (.int .i64 (ky : Int))) := Lib.hid (fun w1 c1 c2 c3 c4 => (add_any c1.out.bu HNI.out (by have := HM.out; omega)).mono (fun r w2 ⟨hr, h2, h3⟩ => by
    have hN := c1.out.next h2 h3
    obtain ⟨q0, q1, q2, q3, q4, q5, _⟩ := c4.out.keep (c3.out.step h3).1
    exact ⟨hr, Lib.hid hN, Lib.hid (c2.out.trans h3), hN.ptr, hN.c1, q0, q1, q2, q3, q4, q5⟩))
  clear HW HB0
  go_region_held3 (fun W' => (W'.cell? ⟨br, 0, none⟩ = some (.pointer (some ⟨bw, 0, none⟩)) ∧ W'.cell? ⟨br, 1, none⟩ = some (.slice Af s.fo.length cf) ∧ W'.cell? ⟨gx, 0, none⟩ = some (.int .i64 (m : Int)) ∧ W'.cell? ⟨gx, 1, none⟩ = some (.int .i64 i) ∧ W'.cell? ⟨gx, 2, none⟩ = some (.int .i64 e) ∧ W'.cell? ⟨gx, 3, none⟩ = some (.int .i64 g) ∧ W'.cell? ⟨gx, 4, none⟩ = some (.int .i64 (kx : Int)) ∧ W'.cell? ⟨gx, 5, none⟩ = some (.int .i64 (ky : Int)))) (first | assumption | (refine ⟨?_, ?_, ?_, ?_, ?_, ?_, ?_, ?_⟩ <;> assumption))
    (first
      | (go_at_call 119; refine (CW.out).mono ?_; rintro r' w1 ⟨rfl, h1, f1, a1, x1, v0, v1, v2, v3, v4, v5, v6, v7⟩)
      | (go_at_call 82; refine (CA.out w1 h1 f1 a1 x1).mono ?_; rintro r' w2 ⟨rfl, h2, f2, u0, u1, u2, u3, u4, u5, u6, u7⟩))
  all_goals go_wp2
  all_goals go_ret
  all_goals exact ⟨rfl, h2, f2⟩
end Go.Proofs.YtkkkomkljpolbaaDoor
