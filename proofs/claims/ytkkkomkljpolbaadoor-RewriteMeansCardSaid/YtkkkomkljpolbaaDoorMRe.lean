/- Layer 6: texts joined: Gg Gga Ggb Ggc Ggd. -/
import Derived.Test.YtkkkomkljpolbaaDoorMRa
/- Layer 8: few operators. -/
namespace Go.Proofs.YtkkkomkljpolbaaDoor
open Go.RowKit Go.Proofs.Ws Go.Maps
set_option maxRecDepth 100000
theorem put_facts (o : List Nd) (n : Nd) : (putNd o n).1 < (putNd o n).2.length ∧ o.length ≤ (putNd o n).2.length ∧ (putNd o n).2.length ≤ o.length + 1 :=
  ⟨putNd_lt o n, (putNd_pre o n).length_le, (putNd_len o n).1⟩
/-- what the calls on the builder give -/
def CoOk (B base bw bm : Nat) (W : World) (p : Nat × List Nd) (e : Ending) (w' : World) : Prop := e = .returned (.int .i64 (p.1 : Nat)) ∧ Hid (Bu B base bw bm w' p.2) ∧ Hid (Fb bw bm W w')
theorem Bu.drew {B base bw bm : Nat} {W : World} {o : List Nd} (h : Bu B base bw bm W o) : Bu B base bw bm W.drew o := h.below (Below.refl _ W).drew
theorem FbG.drew {bw bm : Nat} {w W : World} (h : Fb bw bm w W) : Fb bw bm w W.drew := ⟨h.os, h.tape, h.output, h.size, h.block, h.row⟩
theorem Bu.drewN {B base bw bm : Nat} {W : World} {o : List Nd} (h : Bu B base bw bm W o) (k : Nat) : Bu B base bw bm (W.drewN k) o := h.below (below_drewN (Below.refl _ _) k)
theorem co_add {B base bw bm : Nat} {W0 W : World} {o : List Nd} (h : Hid (Bu B base bw bm W o)) (hF : Hid (Fb bw bm W0 W)) {n : Nd} (hn : NodeIn o n) (hm : o.length ≤ 1000000) :
    Calls Tryd.prog 82 #[.pointer (some ⟨bw, 0, none⟩), nv n] W (CoOk B base bw bm W0 (putNd o n)) :=
  (add_any h.out hn hm).mono (fun _ _ ⟨h1, h2, h3⟩ => ⟨h1, Lib.hid h2, Lib.hid (hF.out.trans h3)⟩)
theorem co_not {B base bw bm : Nat} {W0 W : World} {o : List Nd} (h : Hid (Bu B base bw bm W o)) (hF : Hid (Fb bw bm W0 W)) {x : Nat} (hx : x < o.length) (hm : o.length ≤ 1000000) :
    Calls Tryd.prog 133 #[.pointer (some ⟨bw, 0, none⟩), .int .i64 (x : Int)] W (CoOk B base bw bm W0 (nPut o x)) :=
  (bNot_any h.out hx hm).mono (fun _ _ ⟨h1, h2, h3⟩ => ⟨h1, Lib.hid h2, Lib.hid (hF.out.trans h3)⟩)
theorem co_join {B base bw bm : Nat} {W0 W : World} {o : List Nd} (h : Hid (Bu B base bw bm W o)) (hF : Hid (Fb bw bm W0 W)) {op : Int} {x y : Nat} (hn : NodeIn o (jN op x y)) (hm : o.length ≤ 1000000) :
    Calls Tryd.prog 132 #[.pointer (some ⟨bw, 0, none⟩), .int .i64 op, .int .i64 (x : Int), .int .i64 (y : Int)] W (CoOk B base bw bm W0 (jPut o op x y)) :=
  (bJoin_any h.out hn hm).mono (fun _ _ ⟨h1, h2, h3⟩ => ⟨h1, Lib.hid h2, Lib.hid (hF.out.trans h3)⟩)
set_option maxHeartbeats 4000000 in
theorem co_wih {B base bw bm : Nat} {W0 W : World} {o : List Nd} (h : Hid (Bu B base bw bm W o)) (hF : Hid (Fb bw bm W0 W)) {x y : Nat} (hx : x < o.length) (hy : y < o.length) (hm : o.length ≤ 999990) :
    Calls Tryd.prog 134 #[.pointer (some ⟨bw, 0, none⟩), .int .i64 (x : Int), .int .i64 (y : Int)] W (CoOk B base bw bm W0 (wihP o x y)) := by
  have F1 := Lib.hid (put_facts o (jN 4 y 0))
  have F2 := Lib.hid (put_facts (nPut o y).2 (jN 5 x (nPut o y).1))
  have C1 := Lib.hid (co_not h hF hy (by omega))
  have HX := Lib.hid hx
  have HY := Lib.hid hy
  have HM := Lib.hid hm
  have HE : Hid (wihP o x y = nPut (jPut (nPut o y).2 5 x (nPut o y).1).2 (jPut (nPut o y).2 5 x (nPut o y).1).1) := Lib.hid rfl
  generalize wihP o x y = r at *
  have G1 : Hid ((nPut o y).1 < (nPut o y).2.length ∧ o.length ≤ (nPut o y).2.length ∧ (nPut o y).2.length ≤ o.length + 1) := F1
  have G2 : Hid ((jPut (nPut o y).2 5 x (nPut o y).1).1 < (jPut (nPut o y).2 5 x (nPut o y).1).2.length ∧ (nPut o y).2.length ≤ (jPut (nPut o y).2 5 x (nPut o y).1).2.length ∧ (jPut (nPut o y).2 5 x (nPut o y).1).2.length ≤ (nPut o y).2.length + 1) := F2
  clear F1 F2 h hF hx hy hm
  generalize nPut o y = p1 at *
  generalize hp2 : jPut p1.2 5 x p1.1 = p2 at *
  have HP2 := Lib.hid hp2
  clear hp2
  go_enter Tryd.func134, Tryd.ntmps134
  go_wp2_with fail
  refine (C1.out).mono ?_
  rintro e w1 ⟨rfl, h1, f1⟩
  go_wp2_with fail
  refine (co_join h1 f1 (op := 5) (x := x) (y := p1.1) (jN_bin (by decide) (by have := G1.out; have := HX.out; omega) G1.out.1 (by have := G1.out; have := HM.out; omega)) (by have := G1.out; have := HM.out; omega)).mono ?_
  rintro e w2 ⟨rfl, h2, f2⟩
  rw [HP2.out] at h2
  rw [HP2.out]
  go_wp2_with fail
  refine (co_not h2 f2 (x := p2.1) G2.out.1 (by have := G1.out; have := G2.out; have := HM.out; omega)).mono ?_
  rintro e w3 ⟨rfl, h3, f3⟩
  go_wp2
  go_ret
  rw [HE.out]
  exact ⟨rfl, h3, f3⟩
/-- a call in a region that draws its order: the node's box is as before -/
def CoKeep (B base bw bm : Nat) (W : World) (g : Nat) (n : Nd) (p : Nat × List Nd) (e : Ending) (w' : World) : Prop :=
  e = .returned (.int .i64 (p.1 : Nat)) ∧ Hid (Bu B base bw bm w' p.2) ∧ Hid (Fb bw bm W w') ∧ Hid (AsideB w' bw bm g) ∧ Hid (Box w' g n) ∧ w'.cell? ⟨g, 1, none⟩ = some (.int .i64 n.i)
theorem CoOk.keep {B base bw bm g : Nat} {W0 W : World} {n : Nd} {p : Nat × List Nd} (hF : Hid (Fb bw bm W0 W)) (ha : Hid (AsideB W bw bm g)) (hb : Hid (Box W g n)) {e : Ending} {w' : World} (hk : CoOk B base bw bm W p e w') : CoKeep B base bw bm W0 g n p e w' := by
  obtain ⟨h1, h2, h3⟩ := hk
  have hs := ha.out.step h3.out
  have hb2 := hb.out.keep hs.1
  exact ⟨h1, h2, Lib.hid (hF.out.trans h3.out), Lib.hid hs.2, Lib.hid hb2, hb2.2.1⟩
theorem wih_facts (o : List Nd) (x y : Nat) : (wihP o x y).1 < (wihP o x y).2.length ∧ o.length ≤ (wihP o x y).2.length ∧ (wihP o x y).2.length ≤ o.length + 3 := by
  have h1 := put_facts o (jN 4 y 0)
  have h2 := put_facts (nPut o y).2 (jN 5 x (nPut o y).1)
  have h3 := put_facts (jPut (nPut o y).2 5 x (nPut o y).1).2 (jN 4 (jPut (nPut o y).2 5 x (nPut o y).1).1 0)
  have e : wihP o x y = putNd (jPut (nPut o y).2 5 x (nPut o y).1).2 (jN 4 (jPut (nPut o y).2 5 x (nPut o y).1).1 0) := rfl
  have e1 : putNd o (jN 4 y 0) = nPut o y := rfl
  have e2 : putNd (nPut o y).2 (jN 5 x (nPut o y).1) = jPut (nPut o y).2 5 x (nPut o y).1 := rfl
  rw [← e] at h3
  rw [e2] at h2
  rw [e1] at h1
  omega
theorem knN_in {o : List Nd} {i : Int} {x : Nat} (hi : (Lit.int .i64 i).wf = true) (hx : x < o.length) (hm : o.length ≤ 1000000) : NodeIn o (knN 9 i x) := by
  refine ⟨by show known 9 = true; decide, ⟨?_, ?_⟩, ⟨w_op (op := 9) (by decide), hi, w_nat (k := 0) (by omega), w_nat (k := 0) (by omega), w_nat (k := x) (by omega), w_nat (k := 0) (by omega)⟩⟩
  · rw [if_pos (show usesX (knN 9 i x).op = true from (by decide : usesX 9 = true))]
    show 0 ≤ (x : Int) ∧ (x : Int) < _
    omega
  · rw [if_neg (show ¬ usesY (knN 9 i x).op = true from (by decide : ¬ usesY 9 = true))]
    rfl
end Go.Proofs.YtkkkomkljpolbaaDoor
/- Layer 8: few operators, operators 1 to 8. -/
namespace Go.Proofs.YtkkkomkljpolbaaDoor
open Go.RowKit Go.Proofs.Ws Go.Maps
set_option maxRecDepth 100000
set_option maxHeartbeats 4000000 in
theorem core_1 {B base bw bm : Nat} {W : World} {o : List Nd} (h : Bu B base bw bm W o) (i e g : Int) (x y : Nat) (hn : NodeIn o ⟨1, i, e, g, (x : Int), (y : Int)⟩) (hm : o.length ≤ 999000) :
    Calls Tryd.prog 80 #[.pointer (some ⟨bw, 0, none⟩), nv ⟨1, i, e, g, (x : Int), (y : Int)⟩] W (CoOk B base bw bm W (coreP o ⟨1, i, e, g, (x : Int), (y : Int)⟩)) := by
  have HS0 : Hid (Bu B base bw bm (W.alloc (.cells #[.int .i64 1, .int .i64 i, .int .i64 e, .int .i64 g, .int .i64 (x : Int), .int .i64 (y : Int)] 62)) o) := Lib.hid (h.below ((Below.refl _ W).alloc (Nat.le_refl _) _))
  have HF0 : Hid (Fb bw bm W (W.alloc (.cells #[.int .i64 1, .int .i64 i, .int .i64 e, .int .i64 g, .int .i64 (x : Int), .int .i64 (y : Int)] 62))) := Lib.hid (Fb.of_below ((Below.refl _ W).alloc (Nat.le_refl _) _) h.lwB)
  have HBX0 : Hid (Box (W.alloc (.cells #[.int .i64 1, .int .i64 i, .int .i64 e, .int .i64 g, .int .i64 (x : Int), .int .i64 (y : Int)] 62)) W.heap.size ⟨1, i, e, g, (x : Int), (y : Int)⟩) := Lib.hid (Box.made W ⟨1, i, e, g, (x : Int), (y : Int)⟩ 62)
  have HA0 := Lib.hid (AsideB.new (g := W.heap.size) h.st ((Below.refl _ W).alloc (Nat.le_refl _) (.cells #[.int .i64 1, .int .i64 i, .int .i64 e, .int .i64 g, .int .i64 (x : Int), .int .i64 (y : Int)] 62)) (Nat.le_refl _) (by simp))
  have LM := Lib.hid hm
  have HN := Lib.hid hn
  have HR : Hid (coreP o ⟨1, i, e, g, (x : Int), (y : Int)⟩ = nPut (cPut o 2).2 (cPut o 2).1) := Lib.hid (by unfold coreP; simp)
  clear h hn hm
  unfold nv
  go_enter Tryd.func80, Tryd.ntmps80
  go_wp2_with fail
  go_quiet (fail)
  replace HS0 : Hid (Bu B base bw bm ((W.alloc (.cells #[.int .i64 1, .int .i64 i, .int .i64 e, .int .i64 g, .int .i64 (x : Int), .int .i64 (y : Int)] 62)).drewN nq) o) := Lib.hid (HS0.out.drewN nq)
  replace HF0 : Hid (Fb bw bm W ((W.alloc (.cells #[.int .i64 1, .int .i64 i, .int .i64 e, .int .i64 g, .int .i64 (x : Int), .int .i64 (y : Int)] 62)).drewN nq)) := Lib.hid (HF0.out.drewN nq)
  replace HBX0 : Hid (Box ((W.alloc (.cells #[.int .i64 1, .int .i64 i, .int .i64 e, .int .i64 g, .int .i64 (x : Int), .int .i64 (y : Int)] 62)).drewN nq) W.heap.size ⟨1, i, e, g, (x : Int), (y : Int)⟩) := Lib.hid HBX0.out
  replace HA0 : Hid (AsideB ((W.alloc (.cells #[.int .i64 1, .int .i64 i, .int .i64 e, .int .i64 g, .int .i64 (x : Int), .int .i64 (y : Int)] 62)).drewN nq) bw bm W.heap.size) := Lib.hid (HA0.out.drewN nq)
  generalize (W.alloc (.cells #[.int .i64 1, .int .i64 i, .int .i64 e, .int .i64 g, .int .i64 (x : Int), .int .i64 (y : Int)] 62)).drewN nq = w0 at *
  generalize W.heap.size = gx at *
  obtain ⟨b0, b1, b2, b3, b4, b5, bf⟩ := HBX0.out
  dsimp only at b0 b1 b2 b3 b4 b5
  clear bf
  rw [HR.out]
  clear HR
  go_wp2_with fail
  refine (co_join HS0 HF0 (op := 2) (x := 0) (y := 0) (jN_const (by omega)) (by have := LM.out; omega)).mono ?_
  rintro r' w1 ⟨rfl, h1, f1⟩
  have G1 := Lib.hid (put_facts o (jN 2 0 0))
  go_wp2_with fail
  refine (co_not h1 f1 (x := (jPut o 2 0 0).1) G1.out.1 (by have h5 : (jPut o 2 0 0).2.length ≤ o.length + 1 := G1.out.2.2; have := LM.out; omega)).mono ?_
  rintro r' w2 ⟨rfl, h2, f2⟩
  go_wp2
  go_ret
  exact ⟨rfl, h2, f2⟩
set_option maxHeartbeats 4000000 in
theorem core_2 {B base bw bm : Nat} {W : World} {o : List Nd} (h : Bu B base bw bm W o) (i e g : Int) (x y : Nat) (hn : NodeIn o ⟨2, i, e, g, (x : Int), (y : Int)⟩) (hm : o.length ≤ 999000) :
    Calls Tryd.prog 80 #[.pointer (some ⟨bw, 0, none⟩), nv ⟨2, i, e, g, (x : Int), (y : Int)⟩] W (CoOk B base bw bm W (coreP o ⟨2, i, e, g, (x : Int), (y : Int)⟩)) := by
  have HS0 : Hid (Bu B base bw bm (W.alloc (.cells #[.int .i64 2, .int .i64 i, .int .i64 e, .int .i64 g, .int .i64 (x : Int), .int .i64 (y : Int)] 62)) o) := Lib.hid (h.below ((Below.refl _ W).alloc (Nat.le_refl _) _))
  have HF0 : Hid (Fb bw bm W (W.alloc (.cells #[.int .i64 2, .int .i64 i, .int .i64 e, .int .i64 g, .int .i64 (x : Int), .int .i64 (y : Int)] 62))) := Lib.hid (Fb.of_below ((Below.refl _ W).alloc (Nat.le_refl _) _) h.lwB)
  have HBX0 : Hid (Box (W.alloc (.cells #[.int .i64 2, .int .i64 i, .int .i64 e, .int .i64 g, .int .i64 (x : Int), .int .i64 (y : Int)] 62)) W.heap.size ⟨2, i, e, g, (x : Int), (y : Int)⟩) := Lib.hid (Box.made W ⟨2, i, e, g, (x : Int), (y : Int)⟩ 62)
  have HA0 := Lib.hid (AsideB.new (g := W.heap.size) h.st ((Below.refl _ W).alloc (Nat.le_refl _) (.cells #[.int .i64 2, .int .i64 i, .int .i64 e, .int .i64 g, .int .i64 (x : Int), .int .i64 (y : Int)] 62)) (Nat.le_refl _) (by simp))
  have LM := Lib.hid hm
  have HN := Lib.hid hn
  have HR : Hid (coreP o ⟨2, i, e, g, (x : Int), (y : Int)⟩ = putNd o ⟨2, i, e, g, (x : Int), (y : Int)⟩) := Lib.hid (by unfold coreP; simp)
  clear h hn hm
  unfold nv
  go_enter Tryd.func80, Tryd.ntmps80
  go_wp2_with fail
  go_quiet (fail)
  replace HS0 : Hid (Bu B base bw bm ((W.alloc (.cells #[.int .i64 2, .int .i64 i, .int .i64 e, .int .i64 g, .int .i64 (x : Int), .int .i64 (y : Int)] 62)).drewN nq) o) := Lib.hid (HS0.out.drewN nq)
  replace HF0 : Hid (Fb bw bm W ((W.alloc (.cells #[.int .i64 2, .int .i64 i, .int .i64 e, .int .i64 g, .int .i64 (x : Int), .int .i64 (y : Int)] 62)).drewN nq)) := Lib.hid (HF0.out.drewN nq)
  replace HBX0 : Hid (Box ((W.alloc (.cells #[.int .i64 2, .int .i64 i, .int .i64 e, .int .i64 g, .int .i64 (x : Int), .int .i64 (y : Int)] 62)).drewN nq) W.heap.size ⟨2, i, e, g, (x : Int), (y : Int)⟩) := Lib.hid HBX0.out
  replace HA0 : Hid (AsideB ((W.alloc (.cells #[.int .i64 2, .int .i64 i, .int .i64 e, .int .i64 g, .int .i64 (x : Int), .int .i64 (y : Int)] 62)).drewN nq) bw bm W.heap.size) := Lib.hid (HA0.out.drewN nq)
  generalize (W.alloc (.cells #[.int .i64 2, .int .i64 i, .int .i64 e, .int .i64 g, .int .i64 (x : Int), .int .i64 (y : Int)] 62)).drewN nq = w0 at *
  generalize W.heap.size = gx at *
  obtain ⟨b0, b1, b2, b3, b4, b5, bf⟩ := HBX0.out
  dsimp only at b0 b1 b2 b3 b4 b5
  clear bf
  rw [HR.out]
  clear HR
  go_wp2_with fail
  refine (co_add HS0 HF0 HN.out (by have := LM.out; omega)).mono ?_
  rintro r' w1 ⟨rfl, h1, f1⟩
  go_wp2
  go_ret
  exact ⟨rfl, h1, f1⟩
set_option maxHeartbeats 4000000 in
theorem core_3 {B base bw bm : Nat} {W : World} {o : List Nd} (h : Bu B base bw bm W o) (i e g : Int) (x y : Nat) (hn : NodeIn o ⟨3, i, e, g, (x : Int), (y : Int)⟩) (hm : o.length ≤ 999000) :
    Calls Tryd.prog 80 #[.pointer (some ⟨bw, 0, none⟩), nv ⟨3, i, e, g, (x : Int), (y : Int)⟩] W (CoOk B base bw bm W (coreP o ⟨3, i, e, g, (x : Int), (y : Int)⟩)) := by
  have HS0 : Hid (Bu B base bw bm (W.alloc (.cells #[.int .i64 3, .int .i64 i, .int .i64 e, .int .i64 g, .int .i64 (x : Int), .int .i64 (y : Int)] 62)) o) := Lib.hid (h.below ((Below.refl _ W).alloc (Nat.le_refl _) _))
  have HF0 : Hid (Fb bw bm W (W.alloc (.cells #[.int .i64 3, .int .i64 i, .int .i64 e, .int .i64 g, .int .i64 (x : Int), .int .i64 (y : Int)] 62))) := Lib.hid (Fb.of_below ((Below.refl _ W).alloc (Nat.le_refl _) _) h.lwB)
  have HBX0 : Hid (Box (W.alloc (.cells #[.int .i64 3, .int .i64 i, .int .i64 e, .int .i64 g, .int .i64 (x : Int), .int .i64 (y : Int)] 62)) W.heap.size ⟨3, i, e, g, (x : Int), (y : Int)⟩) := Lib.hid (Box.made W ⟨3, i, e, g, (x : Int), (y : Int)⟩ 62)
  have HA0 := Lib.hid (AsideB.new (g := W.heap.size) h.st ((Below.refl _ W).alloc (Nat.le_refl _) (.cells #[.int .i64 3, .int .i64 i, .int .i64 e, .int .i64 g, .int .i64 (x : Int), .int .i64 (y : Int)] 62)) (Nat.le_refl _) (by simp))
  have LM := Lib.hid hm
  have HN := Lib.hid hn
  have HR : Hid (coreP o ⟨3, i, e, g, (x : Int), (y : Int)⟩ = putNd o ⟨3, i, e, g, (x : Int), (y : Int)⟩) := Lib.hid (by unfold coreP; simp)
  clear h hn hm
  unfold nv
  go_enter Tryd.func80, Tryd.ntmps80
  go_wp2_with fail
  go_quiet (fail)
  replace HS0 : Hid (Bu B base bw bm ((W.alloc (.cells #[.int .i64 3, .int .i64 i, .int .i64 e, .int .i64 g, .int .i64 (x : Int), .int .i64 (y : Int)] 62)).drewN nq) o) := Lib.hid (HS0.out.drewN nq)
  replace HF0 : Hid (Fb bw bm W ((W.alloc (.cells #[.int .i64 3, .int .i64 i, .int .i64 e, .int .i64 g, .int .i64 (x : Int), .int .i64 (y : Int)] 62)).drewN nq)) := Lib.hid (HF0.out.drewN nq)
  replace HBX0 : Hid (Box ((W.alloc (.cells #[.int .i64 3, .int .i64 i, .int .i64 e, .int .i64 g, .int .i64 (x : Int), .int .i64 (y : Int)] 62)).drewN nq) W.heap.size ⟨3, i, e, g, (x : Int), (y : Int)⟩) := Lib.hid HBX0.out
  replace HA0 : Hid (AsideB ((W.alloc (.cells #[.int .i64 3, .int .i64 i, .int .i64 e, .int .i64 g, .int .i64 (x : Int), .int .i64 (y : Int)] 62)).drewN nq) bw bm W.heap.size) := Lib.hid (HA0.out.drewN nq)
  generalize (W.alloc (.cells #[.int .i64 3, .int .i64 i, .int .i64 e, .int .i64 g, .int .i64 (x : Int), .int .i64 (y : Int)] 62)).drewN nq = w0 at *
  generalize W.heap.size = gx at *
  obtain ⟨b0, b1, b2, b3, b4, b5, bf⟩ := HBX0.out
  dsimp only at b0 b1 b2 b3 b4 b5
  clear bf
  rw [HR.out]
  clear HR
  go_wp2_with fail
  refine (co_add HS0 HF0 HN.out (by have := LM.out; omega)).mono ?_
  rintro r' w1 ⟨rfl, h1, f1⟩
  go_wp2
  go_ret
  exact ⟨rfl, h1, f1⟩
set_option maxHeartbeats 4000000 in
theorem core_4 {B base bw bm : Nat} {W : World} {o : List Nd} (h : Bu B base bw bm W o) (i e g : Int) (x y : Nat) (hx : x < o.length) (hn : NodeIn o ⟨4, i, e, g, (x : Int), (y : Int)⟩) (hm : o.length ≤ 999000) :
    Calls Tryd.prog 80 #[.pointer (some ⟨bw, 0, none⟩), nv ⟨4, i, e, g, (x : Int), (y : Int)⟩] W (CoOk B base bw bm W (coreP o ⟨4, i, e, g, (x : Int), (y : Int)⟩)) := by
  have HS0 : Hid (Bu B base bw bm (W.alloc (.cells #[.int .i64 4, .int .i64 i, .int .i64 e, .int .i64 g, .int .i64 (x : Int), .int .i64 (y : Int)] 62)) o) := Lib.hid (h.below ((Below.refl _ W).alloc (Nat.le_refl _) _))
  have HF0 : Hid (Fb bw bm W (W.alloc (.cells #[.int .i64 4, .int .i64 i, .int .i64 e, .int .i64 g, .int .i64 (x : Int), .int .i64 (y : Int)] 62))) := Lib.hid (Fb.of_below ((Below.refl _ W).alloc (Nat.le_refl _) _) h.lwB)
  have HBX0 : Hid (Box (W.alloc (.cells #[.int .i64 4, .int .i64 i, .int .i64 e, .int .i64 g, .int .i64 (x : Int), .int .i64 (y : Int)] 62)) W.heap.size ⟨4, i, e, g, (x : Int), (y : Int)⟩) := Lib.hid (Box.made W ⟨4, i, e, g, (x : Int), (y : Int)⟩ 62)
  have HA0 := Lib.hid (AsideB.new (g := W.heap.size) h.st ((Below.refl _ W).alloc (Nat.le_refl _) (.cells #[.int .i64 4, .int .i64 i, .int .i64 e, .int .i64 g, .int .i64 (x : Int), .int .i64 (y : Int)] 62)) (Nat.le_refl _) (by simp))
  have LM := Lib.hid hm
  have HN := Lib.hid hn
  have HR : Hid (coreP o ⟨4, i, e, g, (x : Int), (y : Int)⟩ = putNd o ⟨4, i, e, g, (x : Int), (y : Int)⟩) := Lib.hid (by unfold coreP; simp)
  have LX := Lib.hid hx
  clear h hx hn hm
  unfold nv
  go_enter Tryd.func80, Tryd.ntmps80
  go_wp2_with fail
  go_quiet (fail)
  replace HS0 : Hid (Bu B base bw bm ((W.alloc (.cells #[.int .i64 4, .int .i64 i, .int .i64 e, .int .i64 g, .int .i64 (x : Int), .int .i64 (y : Int)] 62)).drewN nq) o) := Lib.hid (HS0.out.drewN nq)
  replace HF0 : Hid (Fb bw bm W ((W.alloc (.cells #[.int .i64 4, .int .i64 i, .int .i64 e, .int .i64 g, .int .i64 (x : Int), .int .i64 (y : Int)] 62)).drewN nq)) := Lib.hid (HF0.out.drewN nq)
  replace HBX0 : Hid (Box ((W.alloc (.cells #[.int .i64 4, .int .i64 i, .int .i64 e, .int .i64 g, .int .i64 (x : Int), .int .i64 (y : Int)] 62)).drewN nq) W.heap.size ⟨4, i, e, g, (x : Int), (y : Int)⟩) := Lib.hid HBX0.out
  replace HA0 : Hid (AsideB ((W.alloc (.cells #[.int .i64 4, .int .i64 i, .int .i64 e, .int .i64 g, .int .i64 (x : Int), .int .i64 (y : Int)] 62)).drewN nq) bw bm W.heap.size) := Lib.hid (HA0.out.drewN nq)
  generalize (W.alloc (.cells #[.int .i64 4, .int .i64 i, .int .i64 e, .int .i64 g, .int .i64 (x : Int), .int .i64 (y : Int)] 62)).drewN nq = w0 at *
  generalize W.heap.size = gx at *
  obtain ⟨b0, b1, b2, b3, b4, b5, bf⟩ := HBX0.out
  dsimp only at b0 b1 b2 b3 b4 b5
  clear bf
  rw [HR.out]
  clear HR
  go_wp2_with fail
  refine (co_add HS0 HF0 HN.out (by have := LM.out; omega)).mono ?_
  rintro r' w1 ⟨rfl, h1, f1⟩
  go_wp2
  go_ret
  exact ⟨rfl, h1, f1⟩
set_option maxHeartbeats 4000000 in
theorem core_5 {B base bw bm : Nat} {W : World} {o : List Nd} (h : Bu B base bw bm W o) (i e g : Int) (x y : Nat) (hx : x < o.length) (hy : y < o.length) (hn : NodeIn o ⟨5, i, e, g, (x : Int), (y : Int)⟩) (hm : o.length ≤ 999000) :
    Calls Tryd.prog 80 #[.pointer (some ⟨bw, 0, none⟩), nv ⟨5, i, e, g, (x : Int), (y : Int)⟩] W (CoOk B base bw bm W (coreP o ⟨5, i, e, g, (x : Int), (y : Int)⟩)) := by
  have HS0 : Hid (Bu B base bw bm (W.alloc (.cells #[.int .i64 5, .int .i64 i, .int .i64 e, .int .i64 g, .int .i64 (x : Int), .int .i64 (y : Int)] 62)) o) := Lib.hid (h.below ((Below.refl _ W).alloc (Nat.le_refl _) _))
  have HF0 : Hid (Fb bw bm W (W.alloc (.cells #[.int .i64 5, .int .i64 i, .int .i64 e, .int .i64 g, .int .i64 (x : Int), .int .i64 (y : Int)] 62))) := Lib.hid (Fb.of_below ((Below.refl _ W).alloc (Nat.le_refl _) _) h.lwB)
  have HBX0 : Hid (Box (W.alloc (.cells #[.int .i64 5, .int .i64 i, .int .i64 e, .int .i64 g, .int .i64 (x : Int), .int .i64 (y : Int)] 62)) W.heap.size ⟨5, i, e, g, (x : Int), (y : Int)⟩) := Lib.hid (Box.made W ⟨5, i, e, g, (x : Int), (y : Int)⟩ 62)
  have HA0 := Lib.hid (AsideB.new (g := W.heap.size) h.st ((Below.refl _ W).alloc (Nat.le_refl _) (.cells #[.int .i64 5, .int .i64 i, .int .i64 e, .int .i64 g, .int .i64 (x : Int), .int .i64 (y : Int)] 62)) (Nat.le_refl _) (by simp))
  have LM := Lib.hid hm
  have HN := Lib.hid hn
  have HR : Hid (coreP o ⟨5, i, e, g, (x : Int), (y : Int)⟩ = putNd o ⟨5, i, e, g, (x : Int), (y : Int)⟩) := Lib.hid (by unfold coreP; simp)
  have LX := Lib.hid hx
  have LY := Lib.hid hy
  clear h hx hy hn hm
  unfold nv
  go_enter Tryd.func80, Tryd.ntmps80
  go_wp2_with fail
  go_quiet (fail)
  replace HS0 : Hid (Bu B base bw bm ((W.alloc (.cells #[.int .i64 5, .int .i64 i, .int .i64 e, .int .i64 g, .int .i64 (x : Int), .int .i64 (y : Int)] 62)).drewN nq) o) := Lib.hid (HS0.out.drewN nq)
  replace HF0 : Hid (Fb bw bm W ((W.alloc (.cells #[.int .i64 5, .int .i64 i, .int .i64 e, .int .i64 g, .int .i64 (x : Int), .int .i64 (y : Int)] 62)).drewN nq)) := Lib.hid (HF0.out.drewN nq)
  replace HBX0 : Hid (Box ((W.alloc (.cells #[.int .i64 5, .int .i64 i, .int .i64 e, .int .i64 g, .int .i64 (x : Int), .int .i64 (y : Int)] 62)).drewN nq) W.heap.size ⟨5, i, e, g, (x : Int), (y : Int)⟩) := Lib.hid HBX0.out
  replace HA0 : Hid (AsideB ((W.alloc (.cells #[.int .i64 5, .int .i64 i, .int .i64 e, .int .i64 g, .int .i64 (x : Int), .int .i64 (y : Int)] 62)).drewN nq) bw bm W.heap.size) := Lib.hid (HA0.out.drewN nq)
  generalize (W.alloc (.cells #[.int .i64 5, .int .i64 i, .int .i64 e, .int .i64 g, .int .i64 (x : Int), .int .i64 (y : Int)] 62)).drewN nq = w0 at *
  generalize W.heap.size = gx at *
  obtain ⟨b0, b1, b2, b3, b4, b5, bf⟩ := HBX0.out
  dsimp only at b0 b1 b2 b3 b4 b5
  clear bf
  rw [HR.out]
  clear HR
  go_wp2_with fail
  refine (co_add HS0 HF0 HN.out (by have := LM.out; omega)).mono ?_
  rintro r' w1 ⟨rfl, h1, f1⟩
  go_wp2
  go_ret
  exact ⟨rfl, h1, f1⟩
set_option maxHeartbeats 4000000 in
theorem core_6 {B base bw bm : Nat} {W : World} {o : List Nd} (h : Bu B base bw bm W o) (i e g : Int) (x y : Nat) (hx : x < o.length) (hy : y < o.length) (hn : NodeIn o ⟨6, i, e, g, (x : Int), (y : Int)⟩) (hm : o.length ≤ 999000) :
    Calls Tryd.prog 80 #[.pointer (some ⟨bw, 0, none⟩), nv ⟨6, i, e, g, (x : Int), (y : Int)⟩] W (CoOk B base bw bm W (coreP o ⟨6, i, e, g, (x : Int), (y : Int)⟩)) := by
  have HS0 : Hid (Bu B base bw bm (W.alloc (.cells #[.int .i64 6, .int .i64 i, .int .i64 e, .int .i64 g, .int .i64 (x : Int), .int .i64 (y : Int)] 62)) o) := Lib.hid (h.below ((Below.refl _ W).alloc (Nat.le_refl _) _))
  have HF0 : Hid (Fb bw bm W (W.alloc (.cells #[.int .i64 6, .int .i64 i, .int .i64 e, .int .i64 g, .int .i64 (x : Int), .int .i64 (y : Int)] 62))) := Lib.hid (Fb.of_below ((Below.refl _ W).alloc (Nat.le_refl _) _) h.lwB)
  have HBX0 : Hid (Box (W.alloc (.cells #[.int .i64 6, .int .i64 i, .int .i64 e, .int .i64 g, .int .i64 (x : Int), .int .i64 (y : Int)] 62)) W.heap.size ⟨6, i, e, g, (x : Int), (y : Int)⟩) := Lib.hid (Box.made W ⟨6, i, e, g, (x : Int), (y : Int)⟩ 62)
  have HA0 := Lib.hid (AsideB.new (g := W.heap.size) h.st ((Below.refl _ W).alloc (Nat.le_refl _) (.cells #[.int .i64 6, .int .i64 i, .int .i64 e, .int .i64 g, .int .i64 (x : Int), .int .i64 (y : Int)] 62)) (Nat.le_refl _) (by simp))
  have LM := Lib.hid hm
  have HN := Lib.hid hn
  have HR : Hid (coreP o ⟨6, i, e, g, (x : Int), (y : Int)⟩ = wihP (nPut o x).2 (nPut o x).1 y) := Lib.hid (by unfold coreP; simp)
  have LX := Lib.hid hx
  have LY := Lib.hid hy
  clear h hx hy hn hm
  unfold nv
  go_enter Tryd.func80, Tryd.ntmps80
  go_wp2_with fail
  go_quiet (fail)
  replace HS0 : Hid (Bu B base bw bm ((W.alloc (.cells #[.int .i64 6, .int .i64 i, .int .i64 e, .int .i64 g, .int .i64 (x : Int), .int .i64 (y : Int)] 62)).drewN nq) o) := Lib.hid (HS0.out.drewN nq)
  replace HF0 : Hid (Fb bw bm W ((W.alloc (.cells #[.int .i64 6, .int .i64 i, .int .i64 e, .int .i64 g, .int .i64 (x : Int), .int .i64 (y : Int)] 62)).drewN nq)) := Lib.hid (HF0.out.drewN nq)
  replace HBX0 : Hid (Box ((W.alloc (.cells #[.int .i64 6, .int .i64 i, .int .i64 e, .int .i64 g, .int .i64 (x : Int), .int .i64 (y : Int)] 62)).drewN nq) W.heap.size ⟨6, i, e, g, (x : Int), (y : Int)⟩) := Lib.hid HBX0.out
  replace HA0 : Hid (AsideB ((W.alloc (.cells #[.int .i64 6, .int .i64 i, .int .i64 e, .int .i64 g, .int .i64 (x : Int), .int .i64 (y : Int)] 62)).drewN nq) bw bm W.heap.size) := Lib.hid (HA0.out.drewN nq)
  generalize (W.alloc (.cells #[.int .i64 6, .int .i64 i, .int .i64 e, .int .i64 g, .int .i64 (x : Int), .int .i64 (y : Int)] 62)).drewN nq = w0 at *
  generalize W.heap.size = gx at *
  obtain ⟨b0, b1, b2, b3, b4, b5, bf⟩ := HBX0.out
  dsimp only at b0 b1 b2 b3 b4 b5
  clear bf
  rw [HR.out]
  clear HR
  go_wp2_with fail
  refine (co_not HS0 HF0 LX.out (by have := LM.out; omega)).mono ?_
  rintro r' w1 ⟨rfl, h1, f1⟩
  have G1 : Hid ((nPut o x).1 < (nPut o x).2.length ∧ o.length ≤ (nPut o x).2.length ∧ (nPut o x).2.length ≤ o.length + 1) := Lib.hid (put_facts o (jN 4 x 0))
  go_wp2_with fail
  refine (co_wih h1 f1 (x := (nPut o x).1) (y := y) G1.out.1 (by have := G1.out; have := LY.out; omega) (by have := G1.out; have := LM.out; omega)).mono ?_
  rintro r' w2 ⟨rfl, h2, f2⟩
  go_wp2
  go_ret
  exact ⟨rfl, h2, f2⟩
set_option maxHeartbeats 4000000 in
theorem core_7 {B base bw bm : Nat} {W : World} {o : List Nd} (h : Bu B base bw bm W o) (i e g : Int) (x y : Nat) (hx : x < o.length) (hy : y < o.length) (hn : NodeIn o ⟨7, i, e, g, (x : Int), (y : Int)⟩) (hm : o.length ≤ 999000) :
    Calls Tryd.prog 80 #[.pointer (some ⟨bw, 0, none⟩), nv ⟨7, i, e, g, (x : Int), (y : Int)⟩] W (CoOk B base bw bm W (coreP o ⟨7, i, e, g, (x : Int), (y : Int)⟩)) := by
  have HS0 : Hid (Bu B base bw bm (W.alloc (.cells #[.int .i64 7, .int .i64 i, .int .i64 e, .int .i64 g, .int .i64 (x : Int), .int .i64 (y : Int)] 62)) o) := Lib.hid (h.below ((Below.refl _ W).alloc (Nat.le_refl _) _))
  have HF0 : Hid (Fb bw bm W (W.alloc (.cells #[.int .i64 7, .int .i64 i, .int .i64 e, .int .i64 g, .int .i64 (x : Int), .int .i64 (y : Int)] 62))) := Lib.hid (Fb.of_below ((Below.refl _ W).alloc (Nat.le_refl _) _) h.lwB)
  have HBX0 : Hid (Box (W.alloc (.cells #[.int .i64 7, .int .i64 i, .int .i64 e, .int .i64 g, .int .i64 (x : Int), .int .i64 (y : Int)] 62)) W.heap.size ⟨7, i, e, g, (x : Int), (y : Int)⟩) := Lib.hid (Box.made W ⟨7, i, e, g, (x : Int), (y : Int)⟩ 62)
  have HA0 := Lib.hid (AsideB.new (g := W.heap.size) h.st ((Below.refl _ W).alloc (Nat.le_refl _) (.cells #[.int .i64 7, .int .i64 i, .int .i64 e, .int .i64 g, .int .i64 (x : Int), .int .i64 (y : Int)] 62)) (Nat.le_refl _) (by simp))
  have LM := Lib.hid hm
  have HN := Lib.hid hn
  have HR : Hid (coreP o ⟨7, i, e, g, (x : Int), (y : Int)⟩ = wihP o x y) := Lib.hid (by unfold coreP; simp)
  have LX := Lib.hid hx
  have LY := Lib.hid hy
  clear h hx hy hn hm
  unfold nv
  go_enter Tryd.func80, Tryd.ntmps80
  go_wp2_with fail
  go_quiet (fail)
  replace HS0 : Hid (Bu B base bw bm ((W.alloc (.cells #[.int .i64 7, .int .i64 i, .int .i64 e, .int .i64 g, .int .i64 (x : Int), .int .i64 (y : Int)] 62)).drewN nq) o) := Lib.hid (HS0.out.drewN nq)
  replace HF0 : Hid (Fb bw bm W ((W.alloc (.cells #[.int .i64 7, .int .i64 i, .int .i64 e, .int .i64 g, .int .i64 (x : Int), .int .i64 (y : Int)] 62)).drewN nq)) := Lib.hid (HF0.out.drewN nq)
  replace HBX0 : Hid (Box ((W.alloc (.cells #[.int .i64 7, .int .i64 i, .int .i64 e, .int .i64 g, .int .i64 (x : Int), .int .i64 (y : Int)] 62)).drewN nq) W.heap.size ⟨7, i, e, g, (x : Int), (y : Int)⟩) := Lib.hid HBX0.out
  replace HA0 : Hid (AsideB ((W.alloc (.cells #[.int .i64 7, .int .i64 i, .int .i64 e, .int .i64 g, .int .i64 (x : Int), .int .i64 (y : Int)] 62)).drewN nq) bw bm W.heap.size) := Lib.hid (HA0.out.drewN nq)
  generalize (W.alloc (.cells #[.int .i64 7, .int .i64 i, .int .i64 e, .int .i64 g, .int .i64 (x : Int), .int .i64 (y : Int)] 62)).drewN nq = w0 at *
  generalize W.heap.size = gx at *
  obtain ⟨b0, b1, b2, b3, b4, b5, bf⟩ := HBX0.out
  dsimp only at b0 b1 b2 b3 b4 b5
  clear bf
  rw [HR.out]
  clear HR
  go_wp2_with fail
  refine (co_wih HS0 HF0 LX.out LY.out (by have := LM.out; omega)).mono ?_
  rintro r' w1 ⟨rfl, h1, f1⟩
  go_wp2
  go_ret
  exact ⟨rfl, h1, f1⟩
set_option maxHeartbeats 4000000 in
theorem core_8 {B base bw bm : Nat} {W : World} {o : List Nd} (h : Bu B base bw bm W o) (i e g : Int) (x y : Nat) (hx : x < o.length) (hy : y < o.length) (hn : NodeIn o ⟨8, i, e, g, (x : Int), (y : Int)⟩) (hm : o.length ≤ 999000) :
    Calls Tryd.prog 80 #[.pointer (some ⟨bw, 0, none⟩), nv ⟨8, i, e, g, (x : Int), (y : Int)⟩] W (CoOk B base bw bm W (coreP o ⟨8, i, e, g, (x : Int), (y : Int)⟩)) := by
  have HS0 : Hid (Bu B base bw bm (W.alloc (.cells #[.int .i64 8, .int .i64 i, .int .i64 e, .int .i64 g, .int .i64 (x : Int), .int .i64 (y : Int)] 62)) o) := Lib.hid (h.below ((Below.refl _ W).alloc (Nat.le_refl _) _))
  have HF0 : Hid (Fb bw bm W (W.alloc (.cells #[.int .i64 8, .int .i64 i, .int .i64 e, .int .i64 g, .int .i64 (x : Int), .int .i64 (y : Int)] 62))) := Lib.hid (Fb.of_below ((Below.refl _ W).alloc (Nat.le_refl _) _) h.lwB)
  have HBX0 : Hid (Box (W.alloc (.cells #[.int .i64 8, .int .i64 i, .int .i64 e, .int .i64 g, .int .i64 (x : Int), .int .i64 (y : Int)] 62)) W.heap.size ⟨8, i, e, g, (x : Int), (y : Int)⟩) := Lib.hid (Box.made W ⟨8, i, e, g, (x : Int), (y : Int)⟩ 62)
  have HA0 := Lib.hid (AsideB.new (g := W.heap.size) h.st ((Below.refl _ W).alloc (Nat.le_refl _) (.cells #[.int .i64 8, .int .i64 i, .int .i64 e, .int .i64 g, .int .i64 (x : Int), .int .i64 (y : Int)] 62)) (Nat.le_refl _) (by simp))
  have LM := Lib.hid hm
  have HN := Lib.hid hn
  have HR : Hid (coreP o ⟨8, i, e, g, (x : Int), (y : Int)⟩ = jPut (wihP (wihP o x y).2 y x).2 5 (wihP o x y).1 (wihP (wihP o x y).2 y x).1) := Lib.hid (by unfold coreP; simp)
  have LX := Lib.hid hx
  have LY := Lib.hid hy
  clear h hx hy hn hm
  unfold nv
  go_enter Tryd.func80, Tryd.ntmps80
  go_wp2_with fail
  go_quiet (fail)
  replace HS0 : Hid (Bu B base bw bm ((W.alloc (.cells #[.int .i64 8, .int .i64 i, .int .i64 e, .int .i64 g, .int .i64 (x : Int), .int .i64 (y : Int)] 62)).drewN nq) o) := Lib.hid (HS0.out.drewN nq)
  replace HF0 : Hid (Fb bw bm W ((W.alloc (.cells #[.int .i64 8, .int .i64 i, .int .i64 e, .int .i64 g, .int .i64 (x : Int), .int .i64 (y : Int)] 62)).drewN nq)) := Lib.hid (HF0.out.drewN nq)
  replace HBX0 : Hid (Box ((W.alloc (.cells #[.int .i64 8, .int .i64 i, .int .i64 e, .int .i64 g, .int .i64 (x : Int), .int .i64 (y : Int)] 62)).drewN nq) W.heap.size ⟨8, i, e, g, (x : Int), (y : Int)⟩) := Lib.hid HBX0.out
  replace HA0 : Hid (AsideB ((W.alloc (.cells #[.int .i64 8, .int .i64 i, .int .i64 e, .int .i64 g, .int .i64 (x : Int), .int .i64 (y : Int)] 62)).drewN nq) bw bm W.heap.size) := Lib.hid (HA0.out.drewN nq)
  generalize (W.alloc (.cells #[.int .i64 8, .int .i64 i, .int .i64 e, .int .i64 g, .int .i64 (x : Int), .int .i64 (y : Int)] 62)).drewN nq = w0 at *
  generalize W.heap.size = gx at *
  obtain ⟨b0, b1, b2, b3, b4, b5, bf⟩ := HBX0.out
  dsimp only at b0 b1 b2 b3 b4 b5
  clear bf
  go_wp2_with fail
  refine (co_wih HS0 HF0 LX.out LY.out (by have := LM.out; omega)).mono ?_
  rintro r' w1 ⟨rfl, h1, f1⟩
  have G1 := Lib.hid (wih_facts o x y)
  generalize wihP o x y = p1 at *
  go_wp2_with fail
  refine (co_wih h1 f1 (x := y) (y := x) (by have := G1.out; have := LY.out; omega) (by have := G1.out; have := LX.out; omega) (by have := G1.out; have := LM.out; omega)).mono ?_
  rintro r' w2 ⟨rfl, h2, f2⟩
  have G2 := Lib.hid (wih_facts p1.2 y x)
  generalize wihP p1.2 y x = p2 at *
  go_wp2_with fail
  refine (co_join h2 f2 (op := 5) (x := p1.1) (y := p2.1) (jN_bin (by decide) (by have := G1.out; have := G2.out; omega) G2.out.1 (by have := G1.out; have := G2.out; have := LM.out; omega)) (by have := G1.out; have := G2.out; have := LM.out; omega)).mono ?_
  rintro r' w3 ⟨rfl, h3, f3⟩
  go_wp2
  go_ret
  rw [HR.out]
  exact ⟨rfl, h3, f3⟩
end Go.Proofs.YtkkkomkljpolbaaDoor
/- Layer 8: few operators, operators 9 to 14. -/
namespace Go.Proofs.YtkkkomkljpolbaaDoor
open Go.RowKit Go.Proofs.Ws Go.Maps
set_option maxRecDepth 100000
set_option maxHeartbeats 4000000 in
theorem core_9 {B base bw bm : Nat} {W : World} {o : List Nd} (h : Bu B base bw bm W o) (i e g : Int) (x y : Nat) (hx : x < o.length) (hn : NodeIn o ⟨9, i, e, g, (x : Int), (y : Int)⟩) (hm : o.length ≤ 999000) :
    Calls Tryd.prog 80 #[.pointer (some ⟨bw, 0, none⟩), nv ⟨9, i, e, g, (x : Int), (y : Int)⟩] W (CoOk B base bw bm W (coreP o ⟨9, i, e, g, (x : Int), (y : Int)⟩)) := by
  have HS0 : Hid (Bu B base bw bm (W.alloc (.cells #[.int .i64 9, .int .i64 i, .int .i64 e, .int .i64 g, .int .i64 (x : Int), .int .i64 (y : Int)] 62)) o) := Lib.hid (h.below ((Below.refl _ W).alloc (Nat.le_refl _) _))
  have HF0 : Hid (Fb bw bm W (W.alloc (.cells #[.int .i64 9, .int .i64 i, .int .i64 e, .int .i64 g, .int .i64 (x : Int), .int .i64 (y : Int)] 62))) := Lib.hid (Fb.of_below ((Below.refl _ W).alloc (Nat.le_refl _) _) h.lwB)
  have HBX0 : Hid (Box (W.alloc (.cells #[.int .i64 9, .int .i64 i, .int .i64 e, .int .i64 g, .int .i64 (x : Int), .int .i64 (y : Int)] 62)) W.heap.size ⟨9, i, e, g, (x : Int), (y : Int)⟩) := Lib.hid (Box.made W ⟨9, i, e, g, (x : Int), (y : Int)⟩ 62)
  have HA0 := Lib.hid (AsideB.new (g := W.heap.size) h.st ((Below.refl _ W).alloc (Nat.le_refl _) (.cells #[.int .i64 9, .int .i64 i, .int .i64 e, .int .i64 g, .int .i64 (x : Int), .int .i64 (y : Int)] 62)) (Nat.le_refl _) (by simp))
  have LM := Lib.hid hm
  have HN := Lib.hid hn
  have HR : Hid (coreP o ⟨9, i, e, g, (x : Int), (y : Int)⟩ = putNd o ⟨9, i, e, g, (x : Int), (y : Int)⟩) := Lib.hid (by unfold coreP; simp)
  have LX := Lib.hid hx
  clear h hx hn hm
  unfold nv
  go_enter Tryd.func80, Tryd.ntmps80
  go_wp2_with fail
  go_quiet (fail)
  replace HS0 : Hid (Bu B base bw bm ((W.alloc (.cells #[.int .i64 9, .int .i64 i, .int .i64 e, .int .i64 g, .int .i64 (x : Int), .int .i64 (y : Int)] 62)).drewN nq) o) := Lib.hid (HS0.out.drewN nq)
  replace HF0 : Hid (Fb bw bm W ((W.alloc (.cells #[.int .i64 9, .int .i64 i, .int .i64 e, .int .i64 g, .int .i64 (x : Int), .int .i64 (y : Int)] 62)).drewN nq)) := Lib.hid (HF0.out.drewN nq)
  replace HBX0 : Hid (Box ((W.alloc (.cells #[.int .i64 9, .int .i64 i, .int .i64 e, .int .i64 g, .int .i64 (x : Int), .int .i64 (y : Int)] 62)).drewN nq) W.heap.size ⟨9, i, e, g, (x : Int), (y : Int)⟩) := Lib.hid HBX0.out
  replace HA0 : Hid (AsideB ((W.alloc (.cells #[.int .i64 9, .int .i64 i, .int .i64 e, .int .i64 g, .int .i64 (x : Int), .int .i64 (y : Int)] 62)).drewN nq) bw bm W.heap.size) := Lib.hid (HA0.out.drewN nq)
  generalize (W.alloc (.cells #[.int .i64 9, .int .i64 i, .int .i64 e, .int .i64 g, .int .i64 (x : Int), .int .i64 (y : Int)] 62)).drewN nq = w0 at *
  generalize W.heap.size = gx at *
  obtain ⟨b0, b1, b2, b3, b4, b5, bf⟩ := HBX0.out
  dsimp only at b0 b1 b2 b3 b4 b5
  clear bf
  rw [HR.out]
  clear HR
  go_wp2_with fail
  refine (co_add HS0 HF0 HN.out (by have := LM.out; omega)).mono ?_
  rintro r' w1 ⟨rfl, h1, f1⟩
  go_wp2
  go_ret
  exact ⟨rfl, h1, f1⟩
set_option maxHeartbeats 4000000 in
theorem core_10 {B base bw bm : Nat} {W : World} {o : List Nd} (h : Bu B base bw bm W o) (i e g : Int) (x y : Nat) (hx : x < o.length) (hn : NodeIn o ⟨10, i, e, g, (x : Int), (y : Int)⟩) (hm : o.length ≤ 999000) :
    Calls Tryd.prog 80 #[.pointer (some ⟨bw, 0, none⟩), nv ⟨10, i, e, g, (x : Int), (y : Int)⟩] W (CoOk B base bw bm W (coreP o ⟨10, i, e, g, (x : Int), (y : Int)⟩)) := by
  have HS0 : Hid (Bu B base bw bm (W.alloc (.cells #[.int .i64 10, .int .i64 i, .int .i64 e, .int .i64 g, .int .i64 (x : Int), .int .i64 (y : Int)] 62)) o) := Lib.hid (h.below ((Below.refl _ W).alloc (Nat.le_refl _) _))
  have HF0 : Hid (Fb bw bm W (W.alloc (.cells #[.int .i64 10, .int .i64 i, .int .i64 e, .int .i64 g, .int .i64 (x : Int), .int .i64 (y : Int)] 62))) := Lib.hid (Fb.of_below ((Below.refl _ W).alloc (Nat.le_refl _) _) h.lwB)
  have HBX0 : Hid (Box (W.alloc (.cells #[.int .i64 10, .int .i64 i, .int .i64 e, .int .i64 g, .int .i64 (x : Int), .int .i64 (y : Int)] 62)) W.heap.size ⟨10, i, e, g, (x : Int), (y : Int)⟩) := Lib.hid (Box.made W ⟨10, i, e, g, (x : Int), (y : Int)⟩ 62)
  have HA0 := Lib.hid (AsideB.new (g := W.heap.size) h.st ((Below.refl _ W).alloc (Nat.le_refl _) (.cells #[.int .i64 10, .int .i64 i, .int .i64 e, .int .i64 g, .int .i64 (x : Int), .int .i64 (y : Int)] 62)) (Nat.le_refl _) (by simp))
  have LM := Lib.hid hm
  have HN := Lib.hid hn
  have HR : Hid (coreP o ⟨10, i, e, g, (x : Int), (y : Int)⟩ = nPut (putNd (nPut o x).2 (knN 9 i (nPut o x).1)).2 (putNd (nPut o x).2 (knN 9 i (nPut o x).1)).1) := Lib.hid (by unfold coreP; simp)
  have LX := Lib.hid hx
  clear h hx hn hm
  unfold nv
  go_enter Tryd.func80, Tryd.ntmps80
  go_wp2_with fail
  go_quiet (fail)
  replace HS0 : Hid (Bu B base bw bm ((W.alloc (.cells #[.int .i64 10, .int .i64 i, .int .i64 e, .int .i64 g, .int .i64 (x : Int), .int .i64 (y : Int)] 62)).drewN nq) o) := Lib.hid (HS0.out.drewN nq)
  replace HF0 : Hid (Fb bw bm W ((W.alloc (.cells #[.int .i64 10, .int .i64 i, .int .i64 e, .int .i64 g, .int .i64 (x : Int), .int .i64 (y : Int)] 62)).drewN nq)) := Lib.hid (HF0.out.drewN nq)
  replace HBX0 : Hid (Box ((W.alloc (.cells #[.int .i64 10, .int .i64 i, .int .i64 e, .int .i64 g, .int .i64 (x : Int), .int .i64 (y : Int)] 62)).drewN nq) W.heap.size ⟨10, i, e, g, (x : Int), (y : Int)⟩) := Lib.hid HBX0.out
  replace HA0 : Hid (AsideB ((W.alloc (.cells #[.int .i64 10, .int .i64 i, .int .i64 e, .int .i64 g, .int .i64 (x : Int), .int .i64 (y : Int)] 62)).drewN nq) bw bm W.heap.size) := Lib.hid (HA0.out.drewN nq)
  generalize (W.alloc (.cells #[.int .i64 10, .int .i64 i, .int .i64 e, .int .i64 g, .int .i64 (x : Int), .int .i64 (y : Int)] 62)).drewN nq = w0 at *
  generalize W.heap.size = gx at *
  obtain ⟨b0, b1, b2, b3, b4, b5, bf⟩ := HBX0.out
  dsimp only at b0 b1 b2 b3 b4 b5
  clear bf
  have C1 := Lib.hid ((co_not (W0 := w0.drew) (Lib.hid HS0.out.drew) (Lib.hid Fb.refl) LX.out (by have := LM.out; omega)).mono (fun _ _ hk => CoOk.keep (W := w0.drew) (Lib.hid (FbG.drew HF0.out)) (Lib.hid (HA0.out.drewN 1)) (Lib.hid HBX0.out) hk))
  have G1 : Hid ((nPut o x).1 < (nPut o x).2.length ∧ o.length ≤ (nPut o x).2.length ∧ (nPut o x).2.length ≤ o.length + 1) := Lib.hid (put_facts o (jN 4 x 0))
  generalize nPut o x = p1 at *
  have G2 := Lib.hid (put_facts p1.2 (knN 9 i p1.1))
  have HNK : Hid (NodeIn p1.2 (knN 9 i p1.1)) := Lib.hid (knN_in HN.out.w.i G1.out.1 (by have := G1.out; have := LM.out; omega))
  generalize hp2 : putNd p1.2 (knN 9 i p1.1) = p2 at *
  have HP2 := Lib.hid hp2
  clear hp2
  go_wp2_with fail
  go_region_held3 (fun W' => W'.cell? ⟨gx, 1, none⟩ = some (.int .i64 i)) (first | assumption)
    (first
      | (go_at_call 133; refine (C1.out).mono ?_; rintro r' w1 ⟨rfl, h1, f1, a1, x1, c1⟩)
      | (go_at_call 82; refine ((co_add (W0 := w1) h1 (Lib.hid Fb.refl) HNK.out (by have := G1.out; have := LM.out; omega)).mono (fun _ _ hk => CoOk.keep (W := w1) f1 a1 x1 hk)).mono ?_; rw [HP2.out]; rintro r' w2 ⟨rfl, h2, f2, a2, x2, c2⟩)
      | (go_at_call 133; refine ((co_not (W0 := w2) (x := p2.1) h2 (Lib.hid Fb.refl) G2.out.1 (by have := G1.out; have := G2.out; have := LM.out; omega)).mono (fun _ _ hk => CoOk.keep (W := w2) f2 a2 x2 hk)).mono ?_; rintro r' w3 ⟨rfl, h3, f3, a3, x3, c3⟩))
  all_goals go_wp2
  all_goals go_ret
  all_goals rw [HR.out]
  all_goals exact ⟨rfl, h3, f3⟩
set_option maxHeartbeats 4000000 in
theorem core_11 {B base bw bm : Nat} {W : World} {o : List Nd} (h : Bu B base bw bm W o) (i e g : Int) (x y : Nat) (hx : x < o.length) (hn : NodeIn o ⟨11, i, e, g, (x : Int), (y : Int)⟩) (hm : o.length ≤ 999000) :
    Calls Tryd.prog 80 #[.pointer (some ⟨bw, 0, none⟩), nv ⟨11, i, e, g, (x : Int), (y : Int)⟩] W (CoOk B base bw bm W (coreP o ⟨11, i, e, g, (x : Int), (y : Int)⟩)) := by
  have HS0 : Hid (Bu B base bw bm (W.alloc (.cells #[.int .i64 11, .int .i64 i, .int .i64 e, .int .i64 g, .int .i64 (x : Int), .int .i64 (y : Int)] 62)) o) := Lib.hid (h.below ((Below.refl _ W).alloc (Nat.le_refl _) _))
  have HF0 : Hid (Fb bw bm W (W.alloc (.cells #[.int .i64 11, .int .i64 i, .int .i64 e, .int .i64 g, .int .i64 (x : Int), .int .i64 (y : Int)] 62))) := Lib.hid (Fb.of_below ((Below.refl _ W).alloc (Nat.le_refl _) _) h.lwB)
  have HBX0 : Hid (Box (W.alloc (.cells #[.int .i64 11, .int .i64 i, .int .i64 e, .int .i64 g, .int .i64 (x : Int), .int .i64 (y : Int)] 62)) W.heap.size ⟨11, i, e, g, (x : Int), (y : Int)⟩) := Lib.hid (Box.made W ⟨11, i, e, g, (x : Int), (y : Int)⟩ 62)
  have HA0 := Lib.hid (AsideB.new (g := W.heap.size) h.st ((Below.refl _ W).alloc (Nat.le_refl _) (.cells #[.int .i64 11, .int .i64 i, .int .i64 e, .int .i64 g, .int .i64 (x : Int), .int .i64 (y : Int)] 62)) (Nat.le_refl _) (by simp))
  have LM := Lib.hid hm
  have HN := Lib.hid hn
  have HR : Hid (coreP o ⟨11, i, e, g, (x : Int), (y : Int)⟩ = putNd o ⟨11, i, e, g, (x : Int), (y : Int)⟩) := Lib.hid (by unfold coreP; simp)
  have LX := Lib.hid hx
  clear h hx hn hm
  unfold nv
  go_enter Tryd.func80, Tryd.ntmps80
  go_wp2_with fail
  go_quiet (fail)
  replace HS0 : Hid (Bu B base bw bm ((W.alloc (.cells #[.int .i64 11, .int .i64 i, .int .i64 e, .int .i64 g, .int .i64 (x : Int), .int .i64 (y : Int)] 62)).drewN nq) o) := Lib.hid (HS0.out.drewN nq)
  replace HF0 : Hid (Fb bw bm W ((W.alloc (.cells #[.int .i64 11, .int .i64 i, .int .i64 e, .int .i64 g, .int .i64 (x : Int), .int .i64 (y : Int)] 62)).drewN nq)) := Lib.hid (HF0.out.drewN nq)
  replace HBX0 : Hid (Box ((W.alloc (.cells #[.int .i64 11, .int .i64 i, .int .i64 e, .int .i64 g, .int .i64 (x : Int), .int .i64 (y : Int)] 62)).drewN nq) W.heap.size ⟨11, i, e, g, (x : Int), (y : Int)⟩) := Lib.hid HBX0.out
  replace HA0 : Hid (AsideB ((W.alloc (.cells #[.int .i64 11, .int .i64 i, .int .i64 e, .int .i64 g, .int .i64 (x : Int), .int .i64 (y : Int)] 62)).drewN nq) bw bm W.heap.size) := Lib.hid (HA0.out.drewN nq)
  generalize (W.alloc (.cells #[.int .i64 11, .int .i64 i, .int .i64 e, .int .i64 g, .int .i64 (x : Int), .int .i64 (y : Int)] 62)).drewN nq = w0 at *
  generalize W.heap.size = gx at *
  obtain ⟨b0, b1, b2, b3, b4, b5, bf⟩ := HBX0.out
  dsimp only at b0 b1 b2 b3 b4 b5
  clear bf
  rw [HR.out]
  clear HR
  go_wp2_with fail
  refine (co_add HS0 HF0 HN.out (by have := LM.out; omega)).mono ?_
  rintro r' w1 ⟨rfl, h1, f1⟩
  go_wp2
  go_ret
  exact ⟨rfl, h1, f1⟩
set_option maxHeartbeats 4000000 in
theorem core_12 {B base bw bm : Nat} {W : World} {o : List Nd} (h : Bu B base bw bm W o) (i e g : Int) (x y : Nat) (hx : x < o.length) (hn : NodeIn o ⟨12, i, e, g, (x : Int), (y : Int)⟩) (hm : o.length ≤ 999000) :
    Calls Tryd.prog 80 #[.pointer (some ⟨bw, 0, none⟩), nv ⟨12, i, e, g, (x : Int), (y : Int)⟩] W (CoOk B base bw bm W (coreP o ⟨12, i, e, g, (x : Int), (y : Int)⟩)) := by
  have HS0 : Hid (Bu B base bw bm (W.alloc (.cells #[.int .i64 12, .int .i64 i, .int .i64 e, .int .i64 g, .int .i64 (x : Int), .int .i64 (y : Int)] 62)) o) := Lib.hid (h.below ((Below.refl _ W).alloc (Nat.le_refl _) _))
  have HF0 : Hid (Fb bw bm W (W.alloc (.cells #[.int .i64 12, .int .i64 i, .int .i64 e, .int .i64 g, .int .i64 (x : Int), .int .i64 (y : Int)] 62))) := Lib.hid (Fb.of_below ((Below.refl _ W).alloc (Nat.le_refl _) _) h.lwB)
  have HBX0 : Hid (Box (W.alloc (.cells #[.int .i64 12, .int .i64 i, .int .i64 e, .int .i64 g, .int .i64 (x : Int), .int .i64 (y : Int)] 62)) W.heap.size ⟨12, i, e, g, (x : Int), (y : Int)⟩) := Lib.hid (Box.made W ⟨12, i, e, g, (x : Int), (y : Int)⟩ 62)
  have HA0 := Lib.hid (AsideB.new (g := W.heap.size) h.st ((Below.refl _ W).alloc (Nat.le_refl _) (.cells #[.int .i64 12, .int .i64 i, .int .i64 e, .int .i64 g, .int .i64 (x : Int), .int .i64 (y : Int)] 62)) (Nat.le_refl _) (by simp))
  have LM := Lib.hid hm
  have HN := Lib.hid hn
  have HR : Hid (coreP o ⟨12, i, e, g, (x : Int), (y : Int)⟩ = putNd o ⟨12, i, e, g, (x : Int), (y : Int)⟩) := Lib.hid (by unfold coreP; simp)
  have LX := Lib.hid hx
  clear h hx hn hm
  unfold nv
  go_enter Tryd.func80, Tryd.ntmps80
  go_wp2_with fail
  go_quiet (fail)
  replace HS0 : Hid (Bu B base bw bm ((W.alloc (.cells #[.int .i64 12, .int .i64 i, .int .i64 e, .int .i64 g, .int .i64 (x : Int), .int .i64 (y : Int)] 62)).drewN nq) o) := Lib.hid (HS0.out.drewN nq)
  replace HF0 : Hid (Fb bw bm W ((W.alloc (.cells #[.int .i64 12, .int .i64 i, .int .i64 e, .int .i64 g, .int .i64 (x : Int), .int .i64 (y : Int)] 62)).drewN nq)) := Lib.hid (HF0.out.drewN nq)
  replace HBX0 : Hid (Box ((W.alloc (.cells #[.int .i64 12, .int .i64 i, .int .i64 e, .int .i64 g, .int .i64 (x : Int), .int .i64 (y : Int)] 62)).drewN nq) W.heap.size ⟨12, i, e, g, (x : Int), (y : Int)⟩) := Lib.hid HBX0.out
  replace HA0 : Hid (AsideB ((W.alloc (.cells #[.int .i64 12, .int .i64 i, .int .i64 e, .int .i64 g, .int .i64 (x : Int), .int .i64 (y : Int)] 62)).drewN nq) bw bm W.heap.size) := Lib.hid (HA0.out.drewN nq)
  generalize (W.alloc (.cells #[.int .i64 12, .int .i64 i, .int .i64 e, .int .i64 g, .int .i64 (x : Int), .int .i64 (y : Int)] 62)).drewN nq = w0 at *
  generalize W.heap.size = gx at *
  obtain ⟨b0, b1, b2, b3, b4, b5, bf⟩ := HBX0.out
  dsimp only at b0 b1 b2 b3 b4 b5
  clear bf
  rw [HR.out]
  clear HR
  go_wp2_with fail
  refine (co_add HS0 HF0 HN.out (by have := LM.out; omega)).mono ?_
  rintro r' w1 ⟨rfl, h1, f1⟩
  go_wp2
  go_ret
  exact ⟨rfl, h1, f1⟩
set_option maxHeartbeats 4000000 in
theorem core_13 {B base bw bm : Nat} {W : World} {o : List Nd} (h : Bu B base bw bm W o) (i e g : Int) (x y : Nat) (hx : x < o.length) (hy : y < o.length) (hn : NodeIn o ⟨13, i, e, g, (x : Int), (y : Int)⟩) (hm : o.length ≤ 999000) :
    Calls Tryd.prog 80 #[.pointer (some ⟨bw, 0, none⟩), nv ⟨13, i, e, g, (x : Int), (y : Int)⟩] W (CoOk B base bw bm W (coreP o ⟨13, i, e, g, (x : Int), (y : Int)⟩)) := by
  have HS0 : Hid (Bu B base bw bm (W.alloc (.cells #[.int .i64 13, .int .i64 i, .int .i64 e, .int .i64 g, .int .i64 (x : Int), .int .i64 (y : Int)] 62)) o) := Lib.hid (h.below ((Below.refl _ W).alloc (Nat.le_refl _) _))
  have HF0 : Hid (Fb bw bm W (W.alloc (.cells #[.int .i64 13, .int .i64 i, .int .i64 e, .int .i64 g, .int .i64 (x : Int), .int .i64 (y : Int)] 62))) := Lib.hid (Fb.of_below ((Below.refl _ W).alloc (Nat.le_refl _) _) h.lwB)
  have HBX0 : Hid (Box (W.alloc (.cells #[.int .i64 13, .int .i64 i, .int .i64 e, .int .i64 g, .int .i64 (x : Int), .int .i64 (y : Int)] 62)) W.heap.size ⟨13, i, e, g, (x : Int), (y : Int)⟩) := Lib.hid (Box.made W ⟨13, i, e, g, (x : Int), (y : Int)⟩ 62)
  have HA0 := Lib.hid (AsideB.new (g := W.heap.size) h.st ((Below.refl _ W).alloc (Nat.le_refl _) (.cells #[.int .i64 13, .int .i64 i, .int .i64 e, .int .i64 g, .int .i64 (x : Int), .int .i64 (y : Int)] 62)) (Nat.le_refl _) (by simp))
  have LM := Lib.hid hm
  have HN := Lib.hid hn
  have HR : Hid (coreP o ⟨13, i, e, g, (x : Int), (y : Int)⟩ = putNd o ⟨13, i, e, g, (x : Int), (y : Int)⟩) := Lib.hid (by unfold coreP; simp)
  have LX := Lib.hid hx
  have LY := Lib.hid hy
  clear h hx hy hn hm
  unfold nv
  go_enter Tryd.func80, Tryd.ntmps80
  go_wp2_with fail
  go_quiet (fail)
  replace HS0 : Hid (Bu B base bw bm ((W.alloc (.cells #[.int .i64 13, .int .i64 i, .int .i64 e, .int .i64 g, .int .i64 (x : Int), .int .i64 (y : Int)] 62)).drewN nq) o) := Lib.hid (HS0.out.drewN nq)
  replace HF0 : Hid (Fb bw bm W ((W.alloc (.cells #[.int .i64 13, .int .i64 i, .int .i64 e, .int .i64 g, .int .i64 (x : Int), .int .i64 (y : Int)] 62)).drewN nq)) := Lib.hid (HF0.out.drewN nq)
  replace HBX0 : Hid (Box ((W.alloc (.cells #[.int .i64 13, .int .i64 i, .int .i64 e, .int .i64 g, .int .i64 (x : Int), .int .i64 (y : Int)] 62)).drewN nq) W.heap.size ⟨13, i, e, g, (x : Int), (y : Int)⟩) := Lib.hid HBX0.out
  replace HA0 : Hid (AsideB ((W.alloc (.cells #[.int .i64 13, .int .i64 i, .int .i64 e, .int .i64 g, .int .i64 (x : Int), .int .i64 (y : Int)] 62)).drewN nq) bw bm W.heap.size) := Lib.hid (HA0.out.drewN nq)
  generalize (W.alloc (.cells #[.int .i64 13, .int .i64 i, .int .i64 e, .int .i64 g, .int .i64 (x : Int), .int .i64 (y : Int)] 62)).drewN nq = w0 at *
  generalize W.heap.size = gx at *
  obtain ⟨b0, b1, b2, b3, b4, b5, bf⟩ := HBX0.out
  dsimp only at b0 b1 b2 b3 b4 b5
  clear bf
  rw [HR.out]
  clear HR
  go_wp2_with fail
  refine (co_add HS0 HF0 HN.out (by have := LM.out; omega)).mono ?_
  rintro r' w1 ⟨rfl, h1, f1⟩
  go_wp2
  go_ret
  exact ⟨rfl, h1, f1⟩
set_option maxHeartbeats 4000000 in
theorem core_14 {B base bw bm : Nat} {W : World} {o : List Nd} (h : Bu B base bw bm W o) (i e g : Int) (x y : Nat) (hx : x < o.length) (hy : y < o.length) (hn : NodeIn o ⟨14, i, e, g, (x : Int), (y : Int)⟩) (hm : o.length ≤ 999000) :
    Calls Tryd.prog 80 #[.pointer (some ⟨bw, 0, none⟩), nv ⟨14, i, e, g, (x : Int), (y : Int)⟩] W (CoOk B base bw bm W (coreP o ⟨14, i, e, g, (x : Int), (y : Int)⟩)) := by
  have HS0 : Hid (Bu B base bw bm (W.alloc (.cells #[.int .i64 14, .int .i64 i, .int .i64 e, .int .i64 g, .int .i64 (x : Int), .int .i64 (y : Int)] 62)) o) := Lib.hid (h.below ((Below.refl _ W).alloc (Nat.le_refl _) _))
  have HF0 : Hid (Fb bw bm W (W.alloc (.cells #[.int .i64 14, .int .i64 i, .int .i64 e, .int .i64 g, .int .i64 (x : Int), .int .i64 (y : Int)] 62))) := Lib.hid (Fb.of_below ((Below.refl _ W).alloc (Nat.le_refl _) _) h.lwB)
  have HBX0 : Hid (Box (W.alloc (.cells #[.int .i64 14, .int .i64 i, .int .i64 e, .int .i64 g, .int .i64 (x : Int), .int .i64 (y : Int)] 62)) W.heap.size ⟨14, i, e, g, (x : Int), (y : Int)⟩) := Lib.hid (Box.made W ⟨14, i, e, g, (x : Int), (y : Int)⟩ 62)
  have HA0 := Lib.hid (AsideB.new (g := W.heap.size) h.st ((Below.refl _ W).alloc (Nat.le_refl _) (.cells #[.int .i64 14, .int .i64 i, .int .i64 e, .int .i64 g, .int .i64 (x : Int), .int .i64 (y : Int)] 62)) (Nat.le_refl _) (by simp))
  have LM := Lib.hid hm
  have HN := Lib.hid hn
  have HR : Hid (coreP o ⟨14, i, e, g, (x : Int), (y : Int)⟩ = putNd o ⟨14, i, e, g, (x : Int), (y : Int)⟩) := Lib.hid (by unfold coreP; simp)
  have LX := Lib.hid hx
  have LY := Lib.hid hy
  clear h hx hy hn hm
  unfold nv
  go_enter Tryd.func80, Tryd.ntmps80
  go_wp2_with fail
  go_quiet (fail)
  replace HS0 : Hid (Bu B base bw bm ((W.alloc (.cells #[.int .i64 14, .int .i64 i, .int .i64 e, .int .i64 g, .int .i64 (x : Int), .int .i64 (y : Int)] 62)).drewN nq) o) := Lib.hid (HS0.out.drewN nq)
  replace HF0 : Hid (Fb bw bm W ((W.alloc (.cells #[.int .i64 14, .int .i64 i, .int .i64 e, .int .i64 g, .int .i64 (x : Int), .int .i64 (y : Int)] 62)).drewN nq)) := Lib.hid (HF0.out.drewN nq)
  replace HBX0 : Hid (Box ((W.alloc (.cells #[.int .i64 14, .int .i64 i, .int .i64 e, .int .i64 g, .int .i64 (x : Int), .int .i64 (y : Int)] 62)).drewN nq) W.heap.size ⟨14, i, e, g, (x : Int), (y : Int)⟩) := Lib.hid HBX0.out
  replace HA0 : Hid (AsideB ((W.alloc (.cells #[.int .i64 14, .int .i64 i, .int .i64 e, .int .i64 g, .int .i64 (x : Int), .int .i64 (y : Int)] 62)).drewN nq) bw bm W.heap.size) := Lib.hid (HA0.out.drewN nq)
  generalize (W.alloc (.cells #[.int .i64 14, .int .i64 i, .int .i64 e, .int .i64 g, .int .i64 (x : Int), .int .i64 (y : Int)] 62)).drewN nq = w0 at *
  generalize W.heap.size = gx at *
  obtain ⟨b0, b1, b2, b3, b4, b5, bf⟩ := HBX0.out
  dsimp only at b0 b1 b2 b3 b4 b5
  clear bf
  rw [HR.out]
  clear HR
  go_wp2_with fail
  refine (co_add HS0 HF0 HN.out (by have := LM.out; omega)).mono ?_
  rintro r' w1 ⟨rfl, h1, f1⟩
  go_wp2
  go_ret
  exact ⟨rfl, h1, f1⟩
end Go.Proofs.YtkkkomkljpolbaaDoor
/- Layer 8: few operators, operators 15 to 21. -/
namespace Go.Proofs.YtkkkomkljpolbaaDoor
open Go.RowKit Go.Proofs.Ws Go.Maps
set_option maxRecDepth 100000
set_option maxHeartbeats 4000000 in
theorem core_15 {B base bw bm : Nat} {W : World} {o : List Nd} (h : Bu B base bw bm W o) (i e g : Int) (x y : Nat) (hx : x < o.length) (hn : NodeIn o ⟨15, i, e, g, (x : Int), (y : Int)⟩) (hm : o.length ≤ 999000) :
    Calls Tryd.prog 80 #[.pointer (some ⟨bw, 0, none⟩), nv ⟨15, i, e, g, (x : Int), (y : Int)⟩] W (CoOk B base bw bm W (coreP o ⟨15, i, e, g, (x : Int), (y : Int)⟩)) := by
  have HS0 : Hid (Bu B base bw bm (W.alloc (.cells #[.int .i64 15, .int .i64 i, .int .i64 e, .int .i64 g, .int .i64 (x : Int), .int .i64 (y : Int)] 62)) o) := Lib.hid (h.below ((Below.refl _ W).alloc (Nat.le_refl _) _))
  have HF0 : Hid (Fb bw bm W (W.alloc (.cells #[.int .i64 15, .int .i64 i, .int .i64 e, .int .i64 g, .int .i64 (x : Int), .int .i64 (y : Int)] 62))) := Lib.hid (Fb.of_below ((Below.refl _ W).alloc (Nat.le_refl _) _) h.lwB)
  have HBX0 : Hid (Box (W.alloc (.cells #[.int .i64 15, .int .i64 i, .int .i64 e, .int .i64 g, .int .i64 (x : Int), .int .i64 (y : Int)] 62)) W.heap.size ⟨15, i, e, g, (x : Int), (y : Int)⟩) := Lib.hid (Box.made W ⟨15, i, e, g, (x : Int), (y : Int)⟩ 62)
  have HA0 := Lib.hid (AsideB.new (g := W.heap.size) h.st ((Below.refl _ W).alloc (Nat.le_refl _) (.cells #[.int .i64 15, .int .i64 i, .int .i64 e, .int .i64 g, .int .i64 (x : Int), .int .i64 (y : Int)] 62)) (Nat.le_refl _) (by simp))
  have LM := Lib.hid hm
  have HN := Lib.hid hn
  have HR : Hid (coreP o ⟨15, i, e, g, (x : Int), (y : Int)⟩ = putNd o ⟨15, i, e, g, (x : Int), (y : Int)⟩) := Lib.hid (by unfold coreP; simp)
  have LX := Lib.hid hx
  clear h hx hn hm
  unfold nv
  go_enter Tryd.func80, Tryd.ntmps80
  go_wp2_with fail
  go_quiet (fail)
  replace HS0 : Hid (Bu B base bw bm ((W.alloc (.cells #[.int .i64 15, .int .i64 i, .int .i64 e, .int .i64 g, .int .i64 (x : Int), .int .i64 (y : Int)] 62)).drewN nq) o) := Lib.hid (HS0.out.drewN nq)
  replace HF0 : Hid (Fb bw bm W ((W.alloc (.cells #[.int .i64 15, .int .i64 i, .int .i64 e, .int .i64 g, .int .i64 (x : Int), .int .i64 (y : Int)] 62)).drewN nq)) := Lib.hid (HF0.out.drewN nq)
  replace HBX0 : Hid (Box ((W.alloc (.cells #[.int .i64 15, .int .i64 i, .int .i64 e, .int .i64 g, .int .i64 (x : Int), .int .i64 (y : Int)] 62)).drewN nq) W.heap.size ⟨15, i, e, g, (x : Int), (y : Int)⟩) := Lib.hid HBX0.out
  replace HA0 : Hid (AsideB ((W.alloc (.cells #[.int .i64 15, .int .i64 i, .int .i64 e, .int .i64 g, .int .i64 (x : Int), .int .i64 (y : Int)] 62)).drewN nq) bw bm W.heap.size) := Lib.hid (HA0.out.drewN nq)
  generalize (W.alloc (.cells #[.int .i64 15, .int .i64 i, .int .i64 e, .int .i64 g, .int .i64 (x : Int), .int .i64 (y : Int)] 62)).drewN nq = w0 at *
  generalize W.heap.size = gx at *
  obtain ⟨b0, b1, b2, b3, b4, b5, bf⟩ := HBX0.out
  dsimp only at b0 b1 b2 b3 b4 b5
  clear bf
  rw [HR.out]
  clear HR
  go_wp2_with fail
  refine (co_add HS0 HF0 HN.out (by have := LM.out; omega)).mono ?_
  rintro r' w1 ⟨rfl, h1, f1⟩
  go_wp2
  go_ret
  exact ⟨rfl, h1, f1⟩
set_option maxHeartbeats 4000000 in
theorem core_16 {B base bw bm : Nat} {W : World} {o : List Nd} (h : Bu B base bw bm W o) (i e g : Int) (x y : Nat) (hx : x < o.length) (hy : y < o.length) (hn : NodeIn o ⟨16, i, e, g, (x : Int), (y : Int)⟩) (hm : o.length ≤ 999000) :
    Calls Tryd.prog 80 #[.pointer (some ⟨bw, 0, none⟩), nv ⟨16, i, e, g, (x : Int), (y : Int)⟩] W (CoOk B base bw bm W (coreP o ⟨16, i, e, g, (x : Int), (y : Int)⟩)) := by
  have HS0 : Hid (Bu B base bw bm (W.alloc (.cells #[.int .i64 16, .int .i64 i, .int .i64 e, .int .i64 g, .int .i64 (x : Int), .int .i64 (y : Int)] 62)) o) := Lib.hid (h.below ((Below.refl _ W).alloc (Nat.le_refl _) _))
  have HF0 : Hid (Fb bw bm W (W.alloc (.cells #[.int .i64 16, .int .i64 i, .int .i64 e, .int .i64 g, .int .i64 (x : Int), .int .i64 (y : Int)] 62))) := Lib.hid (Fb.of_below ((Below.refl _ W).alloc (Nat.le_refl _) _) h.lwB)
  have HBX0 : Hid (Box (W.alloc (.cells #[.int .i64 16, .int .i64 i, .int .i64 e, .int .i64 g, .int .i64 (x : Int), .int .i64 (y : Int)] 62)) W.heap.size ⟨16, i, e, g, (x : Int), (y : Int)⟩) := Lib.hid (Box.made W ⟨16, i, e, g, (x : Int), (y : Int)⟩ 62)
  have HA0 := Lib.hid (AsideB.new (g := W.heap.size) h.st ((Below.refl _ W).alloc (Nat.le_refl _) (.cells #[.int .i64 16, .int .i64 i, .int .i64 e, .int .i64 g, .int .i64 (x : Int), .int .i64 (y : Int)] 62)) (Nat.le_refl _) (by simp))
  have LM := Lib.hid hm
  have HN := Lib.hid hn
  have HR : Hid (coreP o ⟨16, i, e, g, (x : Int), (y : Int)⟩ = putNd o ⟨16, i, e, g, (x : Int), (y : Int)⟩) := Lib.hid (by unfold coreP; simp)
  have LX := Lib.hid hx
  have LY := Lib.hid hy
  clear h hx hy hn hm
  unfold nv
  go_enter Tryd.func80, Tryd.ntmps80
  go_wp2_with fail
  go_quiet (fail)
  replace HS0 : Hid (Bu B base bw bm ((W.alloc (.cells #[.int .i64 16, .int .i64 i, .int .i64 e, .int .i64 g, .int .i64 (x : Int), .int .i64 (y : Int)] 62)).drewN nq) o) := Lib.hid (HS0.out.drewN nq)
  replace HF0 : Hid (Fb bw bm W ((W.alloc (.cells #[.int .i64 16, .int .i64 i, .int .i64 e, .int .i64 g, .int .i64 (x : Int), .int .i64 (y : Int)] 62)).drewN nq)) := Lib.hid (HF0.out.drewN nq)
  replace HBX0 : Hid (Box ((W.alloc (.cells #[.int .i64 16, .int .i64 i, .int .i64 e, .int .i64 g, .int .i64 (x : Int), .int .i64 (y : Int)] 62)).drewN nq) W.heap.size ⟨16, i, e, g, (x : Int), (y : Int)⟩) := Lib.hid HBX0.out
  replace HA0 : Hid (AsideB ((W.alloc (.cells #[.int .i64 16, .int .i64 i, .int .i64 e, .int .i64 g, .int .i64 (x : Int), .int .i64 (y : Int)] 62)).drewN nq) bw bm W.heap.size) := Lib.hid (HA0.out.drewN nq)
  generalize (W.alloc (.cells #[.int .i64 16, .int .i64 i, .int .i64 e, .int .i64 g, .int .i64 (x : Int), .int .i64 (y : Int)] 62)).drewN nq = w0 at *
  generalize W.heap.size = gx at *
  obtain ⟨b0, b1, b2, b3, b4, b5, bf⟩ := HBX0.out
  dsimp only at b0 b1 b2 b3 b4 b5
  clear bf
  rw [HR.out]
  clear HR
  go_wp2_with fail
  refine (co_add HS0 HF0 HN.out (by have := LM.out; omega)).mono ?_
  rintro r' w1 ⟨rfl, h1, f1⟩
  go_wp2
  go_ret
  exact ⟨rfl, h1, f1⟩
set_option maxHeartbeats 4000000 in
theorem core_17 {B base bw bm : Nat} {W : World} {o : List Nd} (h : Bu B base bw bm W o) (i e g : Int) (x y : Nat) (hx : x < o.length) (hn : NodeIn o ⟨17, i, e, g, (x : Int), (y : Int)⟩) (hm : o.length ≤ 999000) :
    Calls Tryd.prog 80 #[.pointer (some ⟨bw, 0, none⟩), nv ⟨17, i, e, g, (x : Int), (y : Int)⟩] W (CoOk B base bw bm W (coreP o ⟨17, i, e, g, (x : Int), (y : Int)⟩)) := by
  have HS0 : Hid (Bu B base bw bm (W.alloc (.cells #[.int .i64 17, .int .i64 i, .int .i64 e, .int .i64 g, .int .i64 (x : Int), .int .i64 (y : Int)] 62)) o) := Lib.hid (h.below ((Below.refl _ W).alloc (Nat.le_refl _) _))
  have HF0 : Hid (Fb bw bm W (W.alloc (.cells #[.int .i64 17, .int .i64 i, .int .i64 e, .int .i64 g, .int .i64 (x : Int), .int .i64 (y : Int)] 62))) := Lib.hid (Fb.of_below ((Below.refl _ W).alloc (Nat.le_refl _) _) h.lwB)
  have HBX0 : Hid (Box (W.alloc (.cells #[.int .i64 17, .int .i64 i, .int .i64 e, .int .i64 g, .int .i64 (x : Int), .int .i64 (y : Int)] 62)) W.heap.size ⟨17, i, e, g, (x : Int), (y : Int)⟩) := Lib.hid (Box.made W ⟨17, i, e, g, (x : Int), (y : Int)⟩ 62)
  have HA0 := Lib.hid (AsideB.new (g := W.heap.size) h.st ((Below.refl _ W).alloc (Nat.le_refl _) (.cells #[.int .i64 17, .int .i64 i, .int .i64 e, .int .i64 g, .int .i64 (x : Int), .int .i64 (y : Int)] 62)) (Nat.le_refl _) (by simp))
  have LM := Lib.hid hm
  have HN := Lib.hid hn
  have HR : Hid (coreP o ⟨17, i, e, g, (x : Int), (y : Int)⟩ = putNd o ⟨17, i, e, g, (x : Int), (y : Int)⟩) := Lib.hid (by unfold coreP; simp)
  have LX := Lib.hid hx
  clear h hx hn hm
  unfold nv
  go_enter Tryd.func80, Tryd.ntmps80
  go_wp2_with fail
  go_quiet (fail)
  replace HS0 : Hid (Bu B base bw bm ((W.alloc (.cells #[.int .i64 17, .int .i64 i, .int .i64 e, .int .i64 g, .int .i64 (x : Int), .int .i64 (y : Int)] 62)).drewN nq) o) := Lib.hid (HS0.out.drewN nq)
  replace HF0 : Hid (Fb bw bm W ((W.alloc (.cells #[.int .i64 17, .int .i64 i, .int .i64 e, .int .i64 g, .int .i64 (x : Int), .int .i64 (y : Int)] 62)).drewN nq)) := Lib.hid (HF0.out.drewN nq)
  replace HBX0 : Hid (Box ((W.alloc (.cells #[.int .i64 17, .int .i64 i, .int .i64 e, .int .i64 g, .int .i64 (x : Int), .int .i64 (y : Int)] 62)).drewN nq) W.heap.size ⟨17, i, e, g, (x : Int), (y : Int)⟩) := Lib.hid HBX0.out
  replace HA0 : Hid (AsideB ((W.alloc (.cells #[.int .i64 17, .int .i64 i, .int .i64 e, .int .i64 g, .int .i64 (x : Int), .int .i64 (y : Int)] 62)).drewN nq) bw bm W.heap.size) := Lib.hid (HA0.out.drewN nq)
  generalize (W.alloc (.cells #[.int .i64 17, .int .i64 i, .int .i64 e, .int .i64 g, .int .i64 (x : Int), .int .i64 (y : Int)] 62)).drewN nq = w0 at *
  generalize W.heap.size = gx at *
  obtain ⟨b0, b1, b2, b3, b4, b5, bf⟩ := HBX0.out
  dsimp only at b0 b1 b2 b3 b4 b5
  clear bf
  rw [HR.out]
  clear HR
  go_wp2_with fail
  refine (co_add HS0 HF0 HN.out (by have := LM.out; omega)).mono ?_
  rintro r' w1 ⟨rfl, h1, f1⟩
  go_wp2
  go_ret
  exact ⟨rfl, h1, f1⟩
set_option maxHeartbeats 4000000 in
theorem core_18 {B base bw bm : Nat} {W : World} {o : List Nd} (h : Bu B base bw bm W o) (i e g : Int) (x y : Nat) (hx : x < o.length) (hn : NodeIn o ⟨18, i, e, g, (x : Int), (y : Int)⟩) (hm : o.length ≤ 999000) :
    Calls Tryd.prog 80 #[.pointer (some ⟨bw, 0, none⟩), nv ⟨18, i, e, g, (x : Int), (y : Int)⟩] W (CoOk B base bw bm W (coreP o ⟨18, i, e, g, (x : Int), (y : Int)⟩)) := by
  have HS0 : Hid (Bu B base bw bm (W.alloc (.cells #[.int .i64 18, .int .i64 i, .int .i64 e, .int .i64 g, .int .i64 (x : Int), .int .i64 (y : Int)] 62)) o) := Lib.hid (h.below ((Below.refl _ W).alloc (Nat.le_refl _) _))
  have HF0 : Hid (Fb bw bm W (W.alloc (.cells #[.int .i64 18, .int .i64 i, .int .i64 e, .int .i64 g, .int .i64 (x : Int), .int .i64 (y : Int)] 62))) := Lib.hid (Fb.of_below ((Below.refl _ W).alloc (Nat.le_refl _) _) h.lwB)
  have HBX0 : Hid (Box (W.alloc (.cells #[.int .i64 18, .int .i64 i, .int .i64 e, .int .i64 g, .int .i64 (x : Int), .int .i64 (y : Int)] 62)) W.heap.size ⟨18, i, e, g, (x : Int), (y : Int)⟩) := Lib.hid (Box.made W ⟨18, i, e, g, (x : Int), (y : Int)⟩ 62)
  have HA0 := Lib.hid (AsideB.new (g := W.heap.size) h.st ((Below.refl _ W).alloc (Nat.le_refl _) (.cells #[.int .i64 18, .int .i64 i, .int .i64 e, .int .i64 g, .int .i64 (x : Int), .int .i64 (y : Int)] 62)) (Nat.le_refl _) (by simp))
  have LM := Lib.hid hm
  have HN := Lib.hid hn
  have HR : Hid (coreP o ⟨18, i, e, g, (x : Int), (y : Int)⟩ = putNd o ⟨18, i, e, g, (x : Int), (y : Int)⟩) := Lib.hid (by unfold coreP; simp)
  have LX := Lib.hid hx
  clear h hx hn hm
  unfold nv
  go_enter Tryd.func80, Tryd.ntmps80
  go_wp2_with fail
  go_quiet (fail)
  replace HS0 : Hid (Bu B base bw bm ((W.alloc (.cells #[.int .i64 18, .int .i64 i, .int .i64 e, .int .i64 g, .int .i64 (x : Int), .int .i64 (y : Int)] 62)).drewN nq) o) := Lib.hid (HS0.out.drewN nq)
  replace HF0 : Hid (Fb bw bm W ((W.alloc (.cells #[.int .i64 18, .int .i64 i, .int .i64 e, .int .i64 g, .int .i64 (x : Int), .int .i64 (y : Int)] 62)).drewN nq)) := Lib.hid (HF0.out.drewN nq)
  replace HBX0 : Hid (Box ((W.alloc (.cells #[.int .i64 18, .int .i64 i, .int .i64 e, .int .i64 g, .int .i64 (x : Int), .int .i64 (y : Int)] 62)).drewN nq) W.heap.size ⟨18, i, e, g, (x : Int), (y : Int)⟩) := Lib.hid HBX0.out
  replace HA0 : Hid (AsideB ((W.alloc (.cells #[.int .i64 18, .int .i64 i, .int .i64 e, .int .i64 g, .int .i64 (x : Int), .int .i64 (y : Int)] 62)).drewN nq) bw bm W.heap.size) := Lib.hid (HA0.out.drewN nq)
  generalize (W.alloc (.cells #[.int .i64 18, .int .i64 i, .int .i64 e, .int .i64 g, .int .i64 (x : Int), .int .i64 (y : Int)] 62)).drewN nq = w0 at *
  generalize W.heap.size = gx at *
  obtain ⟨b0, b1, b2, b3, b4, b5, bf⟩ := HBX0.out
  dsimp only at b0 b1 b2 b3 b4 b5
  clear bf
  rw [HR.out]
  clear HR
  go_wp2_with fail
  refine (co_add HS0 HF0 HN.out (by have := LM.out; omega)).mono ?_
  rintro r' w1 ⟨rfl, h1, f1⟩
  go_wp2
  go_ret
  exact ⟨rfl, h1, f1⟩
set_option maxHeartbeats 4000000 in
theorem core_19 {B base bw bm : Nat} {W : World} {o : List Nd} (h : Bu B base bw bm W o) (i e g : Int) (x y : Nat) (hx : x < o.length) (hy : y < o.length) (hn : NodeIn o ⟨19, i, e, g, (x : Int), (y : Int)⟩) (hm : o.length ≤ 999000) :
    Calls Tryd.prog 80 #[.pointer (some ⟨bw, 0, none⟩), nv ⟨19, i, e, g, (x : Int), (y : Int)⟩] W (CoOk B base bw bm W (coreP o ⟨19, i, e, g, (x : Int), (y : Int)⟩)) := by
  have HS0 : Hid (Bu B base bw bm (W.alloc (.cells #[.int .i64 19, .int .i64 i, .int .i64 e, .int .i64 g, .int .i64 (x : Int), .int .i64 (y : Int)] 62)) o) := Lib.hid (h.below ((Below.refl _ W).alloc (Nat.le_refl _) _))
  have HF0 : Hid (Fb bw bm W (W.alloc (.cells #[.int .i64 19, .int .i64 i, .int .i64 e, .int .i64 g, .int .i64 (x : Int), .int .i64 (y : Int)] 62))) := Lib.hid (Fb.of_below ((Below.refl _ W).alloc (Nat.le_refl _) _) h.lwB)
  have HBX0 : Hid (Box (W.alloc (.cells #[.int .i64 19, .int .i64 i, .int .i64 e, .int .i64 g, .int .i64 (x : Int), .int .i64 (y : Int)] 62)) W.heap.size ⟨19, i, e, g, (x : Int), (y : Int)⟩) := Lib.hid (Box.made W ⟨19, i, e, g, (x : Int), (y : Int)⟩ 62)
  have HA0 := Lib.hid (AsideB.new (g := W.heap.size) h.st ((Below.refl _ W).alloc (Nat.le_refl _) (.cells #[.int .i64 19, .int .i64 i, .int .i64 e, .int .i64 g, .int .i64 (x : Int), .int .i64 (y : Int)] 62)) (Nat.le_refl _) (by simp))
  have LM := Lib.hid hm
  have HN := Lib.hid hn
  have HR : Hid (coreP o ⟨19, i, e, g, (x : Int), (y : Int)⟩ = putNd o ⟨19, i, e, g, (x : Int), (y : Int)⟩) := Lib.hid (by unfold coreP; simp)
  have LX := Lib.hid hx
  have LY := Lib.hid hy
  clear h hx hy hn hm
  unfold nv
  go_enter Tryd.func80, Tryd.ntmps80
  go_wp2_with fail
  go_quiet (fail)
  replace HS0 : Hid (Bu B base bw bm ((W.alloc (.cells #[.int .i64 19, .int .i64 i, .int .i64 e, .int .i64 g, .int .i64 (x : Int), .int .i64 (y : Int)] 62)).drewN nq) o) := Lib.hid (HS0.out.drewN nq)
  replace HF0 : Hid (Fb bw bm W ((W.alloc (.cells #[.int .i64 19, .int .i64 i, .int .i64 e, .int .i64 g, .int .i64 (x : Int), .int .i64 (y : Int)] 62)).drewN nq)) := Lib.hid (HF0.out.drewN nq)
  replace HBX0 : Hid (Box ((W.alloc (.cells #[.int .i64 19, .int .i64 i, .int .i64 e, .int .i64 g, .int .i64 (x : Int), .int .i64 (y : Int)] 62)).drewN nq) W.heap.size ⟨19, i, e, g, (x : Int), (y : Int)⟩) := Lib.hid HBX0.out
  replace HA0 : Hid (AsideB ((W.alloc (.cells #[.int .i64 19, .int .i64 i, .int .i64 e, .int .i64 g, .int .i64 (x : Int), .int .i64 (y : Int)] 62)).drewN nq) bw bm W.heap.size) := Lib.hid (HA0.out.drewN nq)
  generalize (W.alloc (.cells #[.int .i64 19, .int .i64 i, .int .i64 e, .int .i64 g, .int .i64 (x : Int), .int .i64 (y : Int)] 62)).drewN nq = w0 at *
  generalize W.heap.size = gx at *
  obtain ⟨b0, b1, b2, b3, b4, b5, bf⟩ := HBX0.out
  dsimp only at b0 b1 b2 b3 b4 b5
  clear bf
  rw [HR.out]
  clear HR
  go_wp2_with fail
  refine (co_add HS0 HF0 HN.out (by have := LM.out; omega)).mono ?_
  rintro r' w1 ⟨rfl, h1, f1⟩
  go_wp2
  go_ret
  exact ⟨rfl, h1, f1⟩
set_option maxHeartbeats 4000000 in
theorem core_20 {B base bw bm : Nat} {W : World} {o : List Nd} (h : Bu B base bw bm W o) (i e g : Int) (x y : Nat) (hx : x < o.length) (hn : NodeIn o ⟨20, i, e, g, (x : Int), (y : Int)⟩) (hm : o.length ≤ 999000) :
    Calls Tryd.prog 80 #[.pointer (some ⟨bw, 0, none⟩), nv ⟨20, i, e, g, (x : Int), (y : Int)⟩] W (CoOk B base bw bm W (coreP o ⟨20, i, e, g, (x : Int), (y : Int)⟩)) := by
  have HS0 : Hid (Bu B base bw bm (W.alloc (.cells #[.int .i64 20, .int .i64 i, .int .i64 e, .int .i64 g, .int .i64 (x : Int), .int .i64 (y : Int)] 62)) o) := Lib.hid (h.below ((Below.refl _ W).alloc (Nat.le_refl _) _))
  have HF0 : Hid (Fb bw bm W (W.alloc (.cells #[.int .i64 20, .int .i64 i, .int .i64 e, .int .i64 g, .int .i64 (x : Int), .int .i64 (y : Int)] 62))) := Lib.hid (Fb.of_below ((Below.refl _ W).alloc (Nat.le_refl _) _) h.lwB)
  have HBX0 : Hid (Box (W.alloc (.cells #[.int .i64 20, .int .i64 i, .int .i64 e, .int .i64 g, .int .i64 (x : Int), .int .i64 (y : Int)] 62)) W.heap.size ⟨20, i, e, g, (x : Int), (y : Int)⟩) := Lib.hid (Box.made W ⟨20, i, e, g, (x : Int), (y : Int)⟩ 62)
  have HA0 := Lib.hid (AsideB.new (g := W.heap.size) h.st ((Below.refl _ W).alloc (Nat.le_refl _) (.cells #[.int .i64 20, .int .i64 i, .int .i64 e, .int .i64 g, .int .i64 (x : Int), .int .i64 (y : Int)] 62)) (Nat.le_refl _) (by simp))
  have LM := Lib.hid hm
  have HN := Lib.hid hn
  have HR : Hid (coreP o ⟨20, i, e, g, (x : Int), (y : Int)⟩ = putNd o ⟨20, i, e, g, (x : Int), (y : Int)⟩) := Lib.hid (by unfold coreP; simp)
  have LX := Lib.hid hx
  clear h hx hn hm
  unfold nv
  go_enter Tryd.func80, Tryd.ntmps80
  go_wp2_with fail
  go_quiet (fail)
  replace HS0 : Hid (Bu B base bw bm ((W.alloc (.cells #[.int .i64 20, .int .i64 i, .int .i64 e, .int .i64 g, .int .i64 (x : Int), .int .i64 (y : Int)] 62)).drewN nq) o) := Lib.hid (HS0.out.drewN nq)
  replace HF0 : Hid (Fb bw bm W ((W.alloc (.cells #[.int .i64 20, .int .i64 i, .int .i64 e, .int .i64 g, .int .i64 (x : Int), .int .i64 (y : Int)] 62)).drewN nq)) := Lib.hid (HF0.out.drewN nq)
  replace HBX0 : Hid (Box ((W.alloc (.cells #[.int .i64 20, .int .i64 i, .int .i64 e, .int .i64 g, .int .i64 (x : Int), .int .i64 (y : Int)] 62)).drewN nq) W.heap.size ⟨20, i, e, g, (x : Int), (y : Int)⟩) := Lib.hid HBX0.out
  replace HA0 : Hid (AsideB ((W.alloc (.cells #[.int .i64 20, .int .i64 i, .int .i64 e, .int .i64 g, .int .i64 (x : Int), .int .i64 (y : Int)] 62)).drewN nq) bw bm W.heap.size) := Lib.hid (HA0.out.drewN nq)
  generalize (W.alloc (.cells #[.int .i64 20, .int .i64 i, .int .i64 e, .int .i64 g, .int .i64 (x : Int), .int .i64 (y : Int)] 62)).drewN nq = w0 at *
  generalize W.heap.size = gx at *
  obtain ⟨b0, b1, b2, b3, b4, b5, bf⟩ := HBX0.out
  dsimp only at b0 b1 b2 b3 b4 b5
  clear bf
  rw [HR.out]
  clear HR
  go_wp2_with fail
  refine (co_add HS0 HF0 HN.out (by have := LM.out; omega)).mono ?_
  rintro r' w1 ⟨rfl, h1, f1⟩
  go_wp2
  go_ret
  exact ⟨rfl, h1, f1⟩
set_option maxHeartbeats 4000000 in
theorem core_21 {B base bw bm : Nat} {W : World} {o : List Nd} (h : Bu B base bw bm W o) (i e g : Int) (x y : Nat) (hx : x < o.length) (hy : y < o.length) (hn : NodeIn o ⟨21, i, e, g, (x : Int), (y : Int)⟩) (hm : o.length ≤ 999000) :
    Calls Tryd.prog 80 #[.pointer (some ⟨bw, 0, none⟩), nv ⟨21, i, e, g, (x : Int), (y : Int)⟩] W (CoOk B base bw bm W (coreP o ⟨21, i, e, g, (x : Int), (y : Int)⟩)) := by
  have HS0 : Hid (Bu B base bw bm (W.alloc (.cells #[.int .i64 21, .int .i64 i, .int .i64 e, .int .i64 g, .int .i64 (x : Int), .int .i64 (y : Int)] 62)) o) := Lib.hid (h.below ((Below.refl _ W).alloc (Nat.le_refl _) _))
  have HF0 : Hid (Fb bw bm W (W.alloc (.cells #[.int .i64 21, .int .i64 i, .int .i64 e, .int .i64 g, .int .i64 (x : Int), .int .i64 (y : Int)] 62))) := Lib.hid (Fb.of_below ((Below.refl _ W).alloc (Nat.le_refl _) _) h.lwB)
  have HBX0 : Hid (Box (W.alloc (.cells #[.int .i64 21, .int .i64 i, .int .i64 e, .int .i64 g, .int .i64 (x : Int), .int .i64 (y : Int)] 62)) W.heap.size ⟨21, i, e, g, (x : Int), (y : Int)⟩) := Lib.hid (Box.made W ⟨21, i, e, g, (x : Int), (y : Int)⟩ 62)
  have HA0 := Lib.hid (AsideB.new (g := W.heap.size) h.st ((Below.refl _ W).alloc (Nat.le_refl _) (.cells #[.int .i64 21, .int .i64 i, .int .i64 e, .int .i64 g, .int .i64 (x : Int), .int .i64 (y : Int)] 62)) (Nat.le_refl _) (by simp))
  have LM := Lib.hid hm
  have HN := Lib.hid hn
  have HR : Hid (coreP o ⟨21, i, e, g, (x : Int), (y : Int)⟩ = putNd o ⟨21, i, e, g, (x : Int), (y : Int)⟩) := Lib.hid (by unfold coreP; simp)
  have LX := Lib.hid hx
  have LY := Lib.hid hy
  clear h hx hy hn hm
  unfold nv
  go_enter Tryd.func80, Tryd.ntmps80
  go_wp2_with fail
  go_quiet (fail)
  replace HS0 : Hid (Bu B base bw bm ((W.alloc (.cells #[.int .i64 21, .int .i64 i, .int .i64 e, .int .i64 g, .int .i64 (x : Int), .int .i64 (y : Int)] 62)).drewN nq) o) := Lib.hid (HS0.out.drewN nq)
  replace HF0 : Hid (Fb bw bm W ((W.alloc (.cells #[.int .i64 21, .int .i64 i, .int .i64 e, .int .i64 g, .int .i64 (x : Int), .int .i64 (y : Int)] 62)).drewN nq)) := Lib.hid (HF0.out.drewN nq)
  replace HBX0 : Hid (Box ((W.alloc (.cells #[.int .i64 21, .int .i64 i, .int .i64 e, .int .i64 g, .int .i64 (x : Int), .int .i64 (y : Int)] 62)).drewN nq) W.heap.size ⟨21, i, e, g, (x : Int), (y : Int)⟩) := Lib.hid HBX0.out
  replace HA0 : Hid (AsideB ((W.alloc (.cells #[.int .i64 21, .int .i64 i, .int .i64 e, .int .i64 g, .int .i64 (x : Int), .int .i64 (y : Int)] 62)).drewN nq) bw bm W.heap.size) := Lib.hid (HA0.out.drewN nq)
  generalize (W.alloc (.cells #[.int .i64 21, .int .i64 i, .int .i64 e, .int .i64 g, .int .i64 (x : Int), .int .i64 (y : Int)] 62)).drewN nq = w0 at *
  generalize W.heap.size = gx at *
  obtain ⟨b0, b1, b2, b3, b4, b5, bf⟩ := HBX0.out
  dsimp only at b0 b1 b2 b3 b4 b5
  clear bf
  rw [HR.out]
  clear HR
  go_wp2_with fail
  refine (co_add HS0 HF0 HN.out (by have := LM.out; omega)).mono ?_
  rintro r' w1 ⟨rfl, h1, f1⟩
  go_wp2
  go_ret
  exact ⟨rfl, h1, f1⟩
end Go.Proofs.YtkkkomkljpolbaaDoor
/- Layer 8: few operators. -/
namespace Go.Proofs.YtkkkomkljpolbaaDoor
open Go.RowKit Go.Proofs.Ws Go.Maps
set_option maxRecDepth 100000
theorem core_any {B base bw bm : Nat} {W : World} {o : List Nd} (h : Bu B base bw bm W o) (n : Nd) (hn : NodeIn o n) (hm : o.length ≤ 999000) :
    Calls Tryd.prog 80 #[.pointer (some ⟨bw, 0, none⟩), nv n] W (CoOk B base bw bm W (coreP o n)) := by
  obtain ⟨op, i, e, g, x, y⟩ := n
  have hk := hn.kn
  have hx : ∃ k : Nat, x = (k : Int) ∧ (usesX op = true → k < o.length) := by
    have := hn.ops.1
    dsimp only at this
    split at this
    · exact ⟨x.toNat, by omega, fun _ => by omega⟩
    · exact ⟨0, by omega, fun k => absurd k (by assumption)⟩
  have hy : ∃ k : Nat, y = (k : Int) ∧ (usesY op = true → k < o.length) := by
    have := hn.ops.2
    dsimp only at this
    split at this
    · exact ⟨y.toNat, by omega, fun _ => by omega⟩
    · exact ⟨0, by omega, fun k => absurd k (by assumption)⟩
  obtain ⟨a, rfl, hx⟩ := hx
  obtain ⟨b, rfl, hy⟩ := hy
  dsimp only at hk
  rcases known_cases op hk with rfl | rfl | rfl | rfl | rfl | rfl | rfl | rfl | rfl | rfl | rfl | rfl | rfl | rfl | rfl | rfl | rfl | rfl | rfl | rfl | rfl
  · exact core_1 h i e g a b hn hm
  · exact core_2 h i e g a b hn hm
  · exact core_3 h i e g a b hn hm
  · exact core_4 h i e g a b (hx (by decide)) hn hm
  · exact core_5 h i e g a b (hx (by decide)) (hy (by decide)) hn hm
  · exact core_6 h i e g a b (hx (by decide)) (hy (by decide)) hn hm
  · exact core_7 h i e g a b (hx (by decide)) (hy (by decide)) hn hm
  · exact core_8 h i e g a b (hx (by decide)) (hy (by decide)) hn hm
  · exact core_9 h i e g a b (hx (by decide)) hn hm
  · exact core_10 h i e g a b (hx (by decide)) hn hm
  · exact core_11 h i e g a b (hx (by decide)) hn hm
  · exact core_12 h i e g a b (hx (by decide)) hn hm
  · exact core_13 h i e g a b (hx (by decide)) (hy (by decide)) hn hm
  · exact core_14 h i e g a b (hx (by decide)) (hy (by decide)) hn hm
  · exact core_15 h i e g a b (hx (by decide)) hn hm
  · exact core_16 h i e g a b (hx (by decide)) (hy (by decide)) hn hm
  · exact core_17 h i e g a b (hx (by decide)) hn hm
  · exact core_18 h i e g a b (hx (by decide)) hn hm
  · exact core_19 h i e g a b (hx (by decide)) (hy (by decide)) hn hm
  · exact core_20 h i e g a b (hx (by decide)) hn hm
  · exact core_21 h i e g a b (hx (by decide)) (hy (by decide)) hn hm
end Go.Proofs.YtkkkomkljpolbaaDoor
