/- Layer 6: texts joined: Gd Gda Gdb Gdc. -/
import Derived.Test.YtcdmchaehafijaaDoorNRa
/- Layer 8: the simplifier's small functions. -/
namespace Go.Proofs.YtcdmchaehafijaaDoor
open Go.RowKit Go.Proofs.Ws Go.Maps
set_option maxRecDepth 100000
/-- the simplifier at block br, over its builder -/
structure Si (B base bw bm br : Nat) (W : World) (o : List Nd) : Prop where
  bu : Bu B base bw bm W o
  as_ : AsideB W bw bm br
  ptr : W.cell? ⟨br, 0, none⟩ = some (.pointer (some ⟨bw, 0, none⟩))
theorem Si.next {B base bw bm br : Nat} {W W' : World} {o o' : List Nd} (h : Si B base bw bm br W o) (hS : Bu B base bw bm W' o') (hF : Fb bw bm W W') : Si B base bw bm br W' o' := by
  obtain ⟨e, ha⟩ := h.as_.step hF
  exact ⟨hS, ha, (World.cell?_of_block (a := ⟨br, 0, none⟩) e).trans h.ptr⟩
theorem Si.below {B base bw bm br : Nat} {W W' : World} {o : List Nd} (h : Si B base bw bm br W o) (hb : Below W.heap.size W W') : Si B base bw bm br W' o :=
  h.next (h.bu.below hb) (Fb.of_below hb h.bu.lwB)
theorem Si.drew {B base bw bm br : Nat} {W : World} {o : List Nd} (h : Si B base bw bm br W o) : Si B base bw bm br W.drew o := h.below (Below.refl _ W).drew
theorem Fb.drew {bw bm : Nat} {w W : World} (h : Fb bw bm w W) : Fb bw bm w W.drew := ⟨h.os, h.tape, h.output, h.size, h.block, h.row⟩
theorem Si.drewN {B base bw bm br : Nat} {W : World} {o : List Nd} (h : Si B base bw bm br W o) (k : Nat) : Si B base bw bm br (W.drewN k) o := h.below (below_drewN (Below.refl _ _) k)
/-- what the calls on the builder give -/
def BuOk (B base bw bm br : Nat) (W : World) (p : Nat × List Nd) (e : Ending) (w' : World) : Prop := e = .returned (.int .i64 (p.1 : Nat)) ∧ Hid (Si B base bw bm br w' p.2) ∧ Hid (Fb bw bm W w')
theorem Si.add {B base bw bm br : Nat} {W0 W : World} {o : List Nd} (h : Hid (Si B base bw bm br W o)) (hF : Hid (Fb bw bm W0 W)) {n : Nd} (hn : NodeIn o n) (hm : o.length ≤ 1000000) :
    Calls Tryd.prog 64 #[.pointer (some ⟨bw, 0, none⟩), nv n] W (BuOk B base bw bm br W0 (putNd o n)) :=
  (add_any h.out.bu hn hm).mono (fun _e _w' ⟨h1, h2, h3⟩ => ⟨h1, Lib.hid (h.out.next h2 h3), Lib.hid (hF.out.trans h3)⟩)
theorem Si.neg {B base bw bm br : Nat} {W0 W : World} {o : List Nd} (h : Hid (Si B base bw bm br W o)) (hF : Hid (Fb bw bm W0 W)) {x : Nat} (hx : x < o.length) (hm : o.length ≤ 1000000) :
    Calls Tryd.prog 75 #[.pointer (some ⟨bw, 0, none⟩), .int .i64 (x : Int)] W (BuOk B base bw bm br W0 (negP o x)) :=
  (bNeg_any h.out.bu hx hm).mono (fun _e _w' ⟨h1, h2, h3⟩ => ⟨h1, Lib.hid (h.out.next h2 h3), Lib.hid (hF.out.trans h3)⟩)
/-- the same in a region that draws its order: the node's box and the pointer are as before -/
def BuKeep (B base bw bm br : Nat) (W : World) (g : Nat) (n : Nd) (p : Nat × List Nd) (e : Ending) (w' : World) : Prop :=
  e = .returned (.int .i64 (p.1 : Nat)) ∧ Hid (Si B base bw bm br w' p.2) ∧ Hid (Fb bw bm W w') ∧ w'.cell? ⟨br, 0, none⟩ = some (.pointer (some ⟨bw, 0, none⟩)) ∧ w'.cell? ⟨g, 0, none⟩ = some (.int .i64 n.op) ∧ w'.cell? ⟨g, 1, none⟩ = some (.int .i64 n.i) ∧
    w'.cell? ⟨g, 2, none⟩ = some (.int .i64 n.e) ∧ w'.cell? ⟨g, 3, none⟩ = some (.int .i64 n.g) ∧ w'.cell? ⟨g, 4, none⟩ = some (.int .i64 n.x) ∧ w'.cell? ⟨g, 5, none⟩ = some (.int .i64 n.y)
theorem BuOk.keep {B base bw bm br g : Nat} {W0 W : World} {o : List Nd} {n : Nd} {p : Nat × List Nd} (_h : Hid (Si B base bw bm br W o)) (hF : Hid (Fb bw bm W0 W)) (ha : AsideB W bw bm g) (hb : Hid (Box W g n)) {e : Ending} {w' : World} (hk : BuOk B base bw bm br W p e w') : BuKeep B base bw bm br W0 g n p e w' := by
  obtain ⟨h1, h2, h3⟩ := hk
  obtain ⟨q0, q1, q2, q3, q4, q5, _⟩ := hb.out.keep (ha.step h3.out).1
  exact ⟨h1, h2, Lib.hid (hF.out.trans h3.out), h2.out.ptr, q0, q1, q2, q3, q4, q5⟩
theorem BuOk.up {B base bw bm br : Nat} {W0 W : World} {p : Nat × List Nd} (hF : Hid (Fb bw bm W0 W)) {e : Ending} {w' : World} (hk : BuOk B base bw bm br W p e w') : BuOk B base bw bm br W0 p e w' :=
  ⟨hk.1, hk.2.1, Lib.hid (hF.out.trans hk.2.2.out)⟩
theorem Box.drew {W : World} {g : Nat} {x : Nd} (h : Box W g x) : Box W.drew g x := h
theorem Si.addD {B base bw bm br g : Nat} {W0 W : World} {o : List Nd} (h : Hid (Si B base bw bm br W o)) (hF : Hid (Fb bw bm W0 W)) {n : Nd} (ha : AsideB W bw bm g) (hb : Hid (Box W g n)) (hn : NodeIn o n) (hm : o.length ≤ 1000000) :
    Calls Tryd.prog 64 #[.pointer (some ⟨bw, 0, none⟩), nv n] W.drew (BuKeep B base bw bm br W0 g n (putNd o n)) :=
  (Si.add (W0 := W.drew) (Lib.hid h.out.drew) (Lib.hid Fb.refl) hn hm).mono (fun _ _ hk => BuOk.keep (W := W.drew) (Lib.hid h.out.drew) (Lib.hid hF.out.drew) ⟨ha.lt, ha.n1, ha.n3, ha.row⟩ (Lib.hid hb.out.drew) hk)
theorem Si.negD {B base bw bm br g : Nat} {W0 W : World} {o : List Nd} (h : Hid (Si B base bw bm br W o)) (hF : Hid (Fb bw bm W0 W)) {n : Nd} (ha : AsideB W bw bm g) (hb : Hid (Box W g n)) {x : Nat} (hx : x < o.length) (hm : o.length ≤ 1000000) :
    Calls Tryd.prog 75 #[.pointer (some ⟨bw, 0, none⟩), .int .i64 (x : Int)] W.drew (BuKeep B base bw bm br W0 g n (negP o x)) :=
  (Si.neg (W0 := W.drew) (Lib.hid h.out.drew) (Lib.hid Fb.refl) hx hm).mono (fun _ _ hk => BuOk.keep (W := W.drew) (Lib.hid h.out.drew) (Lib.hid hF.out.drew) ⟨ha.lt, ha.n1, ha.n3, ha.row⟩ (Lib.hid hb.out.drew) hk)
theorem Si.refl {B base bw bm br : Nat} {W0 W : World} {o : List Nd} (h : Hid (Si B base bw bm br W o)) (hF : Hid (Fb bw bm W0 W)) (k : Nat) : BuOk B base bw bm br W0 (k, o) (.returned (.int .i64 (k : Int))) W := ⟨rfl, h, hF⟩
theorem opTp_at {B base bw bm : Nat} {W : World} {o : List Nd} (h : Bu B base bw bm W o) {x : Nat} (hx : x < o.length) : ∃ ad c2, W.cell? ⟨bw, 0, none⟩ = some (.slice (some ad) o.length c2) ∧ W.cell? (ad.add (x * 6)) = some (.int .i64 (opTp o x)) := by
  obtain ⟨ad, c2, h1, _, h2, _⟩ := h.at_ hx rfl
  exact ⟨ad, c2, h1, h2⟩
set_option maxHeartbeats 4000000 in
theorem sIs_any {B base bw bm br : Nat} {W : World} {o : List Nd} (h : Hid (Si B base bw bm br W o)) {c : Int} {x : Nat} (hx : x < o.length) :
    Calls Tryd.prog 62 #[.pointer (some ⟨br, 0, none⟩), .int .i64 c, .int .i64 (x : Int)] W fun e w' => e = .returned (.bool (decide (opTp o x = c))) ∧ W = w' := by
  obtain ⟨ad, c2, h1, h2⟩ := opTp_at h.out.bu hx
  have h3 := h.out.ptr
  clear h
  generalize opTp o x = q at *
  generalize o.length = l at *
  go_enter Tryd.func62, Tryd.ntmps62
  go_wp2
  go_ret
  exact ⟨rfl, rfl⟩
set_option maxHeartbeats 4000000 in
theorem sConst_any {B base bw bm br : Nat} {W0 W : World} {o : List Nd} (h : Hid (Si B base bw bm br W o)) (hF : Hid (Fb bw bm W0 W)) {c : Int} (hc : c = 1 ∨ c = 2) (hm : o.length ≤ 1000000) :
    Calls Tryd.prog 63 #[.pointer (some ⟨br, 0, none⟩), .int .i64 c] W (BuOk B base bw bm br W0 (cPut o c)) := by
  have H := Lib.hid (bJoin_any h.out.bu (jN_const (o := o) hc) hm)
  have h3 := h.out.ptr
  have e : jPut o c 0 0 = cPut o c := rfl
  rw [e] at H
  generalize cPut o c = r at *
  clear e
  go_enter Tryd.func63, Tryd.ntmps63
  go_wp2_with fail
  refine (H.out).mono ?_
  rintro e w1 ⟨rfl, h1, h2⟩
  have HH := Lib.hid (And.intro (h.out.next h1 h2) (hF.out.trans h2))
  clear h1 h2 h hF
  go_wp2
  go_ret
  exact ⟨rfl, Lib.hid HH.out.1, Lib.hid HH.out.2⟩
set_option maxHeartbeats 4000000 in
theorem sOpp_any {B base bw bm br : Nat} {W : World} {o : List Nd} (h : Hid (Si B base bw bm br W o)) {x y : Nat} (hx : x < o.length) (hy : y < o.length) :
    Calls Tryd.prog 76 #[.pointer (some ⟨br, 0, none⟩), .int .i64 (x : Int), .int .i64 (y : Int)] W fun e w' => e = .returned (.bool (decide (oppP o x y))) ∧ W = w' := by
  have H1 := Lib.hid (bIsNot_any h.out.bu (y := y) hx)
  have H2 := Lib.hid (bIsNot_any h.out.bu (y := x) hy)
  have h3 := h.out.ptr
  have HE : Hid (decide (oppP o x y) = (decide (o.getD x nd0 = jN 4 y 0) || decide (o.getD y nd0 = jN 4 x 0))) := Lib.hid (by unfold oppP; simp)
  generalize decide (oppP o x y) = r at *
  generalize decide (o.getD x nd0 = jN 4 y 0) = r1 at *
  generalize decide (o.getD y nd0 = jN 4 x 0) = r2 at *
  clear h
  go_enter Tryd.func76, Tryd.ntmps76
  go_wp2_with fail
  refine (H1.out).mono ?_
  rintro e w1 ⟨rfl, rfl⟩
  cases r1
  · go_wp2_with fail
    refine (H2.out).mono ?_
    rintro e w1 ⟨rfl, rfl⟩
    go_wp2
    go_ret
    exact ⟨by rw [HE.out]; rfl, rfl⟩
  · go_wp2
    go_ret
    exact ⟨by rw [HE.out]; rfl, rfl⟩
set_option maxHeartbeats 4000000 in
theorem sNot_any {B base bw bm br : Nat} {W : World} {o : List Nd} (h : Si B base bw bm br W o) (op i e g : Int) (x y : Nat) (hx : x < o.length) (hm : o.length ≤ 1000000) :
    Calls Tryd.prog 58 #[.pointer (some ⟨br, 0, none⟩), nv ⟨op, i, e, g, (x : Int), (y : Int)⟩] W (BuOk B base bw bm br W (sNotP o x)) := by
  have lbr := h.as_.lt
  have HS0 : Hid (Si B base bw bm br (W.alloc (.cells #[.int .i64 op, .int .i64 i, .int .i64 e, .int .i64 g, .int .i64 (x : Int), .int .i64 (y : Int)] 53)) o) := Lib.hid (h.below ((Below.refl _ W).alloc (Nat.le_refl _) _))
  have HF0 : Hid (Fb bw bm W (W.alloc (.cells #[.int .i64 op, .int .i64 i, .int .i64 e, .int .i64 g, .int .i64 (x : Int), .int .i64 (y : Int)] 53))) := Lib.hid (Fb.of_below ((Below.refl _ W).alloc (Nat.le_refl _) _) h.bu.lwB)
  have HBX0 : Hid (Box (W.alloc (.cells #[.int .i64 op, .int .i64 i, .int .i64 e, .int .i64 g, .int .i64 (x : Int), .int .i64 (y : Int)] 53)) W.heap.size ⟨op, i, e, g, (x : Int), (y : Int)⟩) := Lib.hid (Box.made W ⟨op, i, e, g, (x : Int), (y : Int)⟩ 53)
  have HA0 := Lib.hid (AsideB.new (g := W.heap.size) h.bu.st ((Below.refl _ W).alloc (Nat.le_refl _) (.cells #[.int .i64 op, .int .i64 i, .int .i64 e, .int .i64 g, .int .i64 (x : Int), .int .i64 (y : Int)] 53)) (Nat.le_refl _) (by simp))
  have LX := Lib.hid hx
  have LM := Lib.hid hm
  clear h hx hm
  unfold nv
  go_enter Tryd.func58, Tryd.ntmps58
  go_wp2_with fail
  generalize W.alloc (.cells #[.int .i64 op, .int .i64 i, .int .i64 e, .int .i64 g, .int .i64 (x : Int), .int .i64 (y : Int)] 53) = w0 at *
  generalize W.heap.size = gx at *
  obtain ⟨b0, b1, b2, b3, b4, b5, bf⟩ := HBX0.out
  dsimp only at b0 b1 b2 b3 b4 b5
  clear bf
  refine (sIs_any HS0 (c := 1) (x := x) LX.out).mono ?_
  rintro r' w1 ⟨rfl, rfl⟩
  cases h1 : decide (opTp o x = 1)
  · go_wp2_with fail
    refine (sIs_any HS0 (c := 2) (x := x) LX.out).mono ?_
    rintro r' w1 ⟨rfl, rfl⟩
    cases h2 : decide (opTp o x = 2)
    · go_wp2_with fail
      have hp := HS0.out.ptr
      go_region_held3 (fun W' => (W'.cell? ⟨br, 0, none⟩ = some (.pointer (some ⟨bw, 0, none⟩)) ∧ W'.cell? ⟨gx, 0, none⟩ = some (.int .i64 op) ∧ W'.cell? ⟨gx, 1, none⟩ = some (.int .i64 i) ∧ W'.cell? ⟨gx, 2, none⟩ = some (.int .i64 e) ∧ W'.cell? ⟨gx, 3, none⟩ = some (.int .i64 g) ∧ W'.cell? ⟨gx, 4, none⟩ = some (.int .i64 (x : Int)) ∧ W'.cell? ⟨gx, 5, none⟩ = some (.int .i64 (y : Int)))) (first | assumption | (refine ⟨?_, ?_, ?_, ?_, ?_, ?_, ?_⟩ <;> assumption))
        (first | (go_at_call 75; refine ((Si.negD HS0 HF0 HA0.out HBX0 LX.out LM.out)).mono ?_; rintro e' w1 ⟨rfl, h3, h4, k0, k1, k2, k3, k4, k5, k6⟩))
      all_goals go_wp2
      all_goals go_ret
      all_goals rw [show sNotP o x = negP o x from by unfold sNotP; rw [if_neg (of_decide_eq_false h1), if_neg (of_decide_eq_false h2)]]
      all_goals exact ⟨rfl, h3, h4⟩
    · go_wp2_with fail
      refine (sConst_any HS0 HF0 (c := 1) (by omega) LM.out).mono ?_
      rintro r' w1 ⟨rfl, h3, h4⟩
      go_wp2
      go_ret
      rw [show sNotP o x = cPut o 1 from by unfold sNotP; rw [if_neg (of_decide_eq_false h1), if_pos (of_decide_eq_true h2)]]
      exact ⟨rfl, h3, h4⟩
  · go_wp2_with fail
    refine (sConst_any HS0 HF0 (c := 2) (by omega) LM.out).mono ?_
    rintro r' w1 ⟨rfl, h3, h4⟩
    go_wp2
    go_ret
    rw [show sNotP o x = cPut o 2 from by unfold sNotP; rw [if_pos (of_decide_eq_true h1)]]
    exact ⟨rfl, h3, h4⟩
end Go.Proofs.YtcdmchaehafijaaDoor
/- Layer 8: the simplifier's And and Or. -/
namespace Go.Proofs.YtcdmchaehafijaaDoor
open Go.RowKit Go.Proofs.Ws Go.Maps
set_option maxRecDepth 100000
set_option maxHeartbeats 4000000 in
theorem sJoin_any {B base bw bm br : Nat} {W : World} {o : List Nd} (h : Si B base bw bm br W o) (op i e g : Int) (x y : Nat) (hx : x < o.length) (ne de : Int) (hde : (ne = 1 ∧ de = 2) ∨ (ne = 2 ∧ de = 1)) (hy : y < o.length) (hn : NodeIn o ⟨op, i, e, g, (x : Int), (y : Int)⟩) (hm : o.length ≤ 1000000) :
    Calls Tryd.prog 59 #[.pointer (some ⟨br, 0, none⟩), nv ⟨op, i, e, g, (x : Int), (y : Int)⟩, .int .i64 ne, .int .i64 de] W (BuOk B base bw bm br W (sJoinP o ⟨op, i, e, g, (x : Int), (y : Int)⟩ ne de x y)) := by
  have lbr := h.as_.lt
  have HS0 : Hid (Si B base bw bm br (W.alloc (.cells #[.int .i64 op, .int .i64 i, .int .i64 e, .int .i64 g, .int .i64 (x : Int), .int .i64 (y : Int)] 53)) o) := Lib.hid (h.below ((Below.refl _ W).alloc (Nat.le_refl _) _))
  have HF0 : Hid (Fb bw bm W (W.alloc (.cells #[.int .i64 op, .int .i64 i, .int .i64 e, .int .i64 g, .int .i64 (x : Int), .int .i64 (y : Int)] 53))) := Lib.hid (Fb.of_below ((Below.refl _ W).alloc (Nat.le_refl _) _) h.bu.lwB)
  have HBX0 : Hid (Box (W.alloc (.cells #[.int .i64 op, .int .i64 i, .int .i64 e, .int .i64 g, .int .i64 (x : Int), .int .i64 (y : Int)] 53)) W.heap.size ⟨op, i, e, g, (x : Int), (y : Int)⟩) := Lib.hid (Box.made W ⟨op, i, e, g, (x : Int), (y : Int)⟩ 53)
  have HA0 := Lib.hid (AsideB.new (g := W.heap.size) h.bu.st ((Below.refl _ W).alloc (Nat.le_refl _) (.cells #[.int .i64 op, .int .i64 i, .int .i64 e, .int .i64 g, .int .i64 (x : Int), .int .i64 (y : Int)] 53)) (Nat.le_refl _) (by simp))
  have LX := Lib.hid hx
  have LM := Lib.hid hm
  have LY := Lib.hid hy
  have HN := Lib.hid hn
  clear h hx hm hy hn
  unfold nv
  go_enter Tryd.func59, Tryd.ntmps59
  go_wp2_with fail
  go_quiet (fail)
  go_wp2_with fail
  replace HS0 : Hid (Si B base bw bm br ((W.alloc (.cells #[.int .i64 op, .int .i64 i, .int .i64 e, .int .i64 g, .int .i64 (x : Int), .int .i64 (y : Int)] 53)).drewN nq) o) := Lib.hid (HS0.out.drewN nq)
  replace HF0 : Hid (Fb bw bm W ((W.alloc (.cells #[.int .i64 op, .int .i64 i, .int .i64 e, .int .i64 g, .int .i64 (x : Int), .int .i64 (y : Int)] 53)).drewN nq)) := Lib.hid (HF0.out.drewN nq)
  replace HBX0 : Hid (Box ((W.alloc (.cells #[.int .i64 op, .int .i64 i, .int .i64 e, .int .i64 g, .int .i64 (x : Int), .int .i64 (y : Int)] 53)).drewN nq) W.heap.size ⟨op, i, e, g, (x : Int), (y : Int)⟩) := Lib.hid HBX0.out
  replace HA0 : Hid (AsideB ((W.alloc (.cells #[.int .i64 op, .int .i64 i, .int .i64 e, .int .i64 g, .int .i64 (x : Int), .int .i64 (y : Int)] 53)).drewN nq) bw bm W.heap.size) := Lib.hid (HA0.out.drewN nq)
  generalize (W.alloc (.cells #[.int .i64 op, .int .i64 i, .int .i64 e, .int .i64 g, .int .i64 (x : Int), .int .i64 (y : Int)] 53)).drewN nq = w0 at *
  generalize W.heap.size = gx at *
  obtain ⟨b0, b1, b2, b3, b4, b5, bf⟩ := HBX0.out
  dsimp only at b0 b1 b2 b3 b4 b5
  clear bf
  refine (sIs_any HS0 (c := de) (x := x) LX.out).mono ?_
  rintro r' w1 ⟨rfl, rfl⟩
  cases h1 : decide (opTp o x = de)
  · go_wp2_with fail
    refine (sIs_any HS0 (c := de) (x := y) LY.out).mono ?_
    rintro r' w1 ⟨rfl, rfl⟩
    cases h2 : decide (opTp o y = de)
    · go_wp2_with fail
      refine (sIs_any HS0 (c := ne) (x := x) LX.out).mono ?_
      rintro r' w1 ⟨rfl, rfl⟩
      cases h5 : decide (opTp o x = ne)
      · go_wp2_with fail
        refine (sIs_any HS0 (c := ne) (x := y) LY.out).mono ?_
        rintro r' w1 ⟨rfl, rfl⟩
        cases h6 : decide (opTp o y = ne)
        · by_cases h7 : (x : Int) = (y : Int)
          · have hyx : x = y := by omega
            subst hyx
            go_wp2_with fail
            go_ret
            have h1' := of_decide_eq_false h1
            have h2' := of_decide_eq_false h2
            have h5' := of_decide_eq_false h5
            have h6' := of_decide_eq_false h6
            rw [show sJoinP o ⟨op, i, e, g, (x : Int), (x : Int)⟩ ne de x x = (x, o) from by unfold sJoinP; rcases hde with ⟨rfl, rfl⟩ | ⟨rfl, rfl⟩ <;> simp [h1', h5']]
            exact ⟨rfl, HS0, HF0⟩
          · go_wp2_with fail
            refine (sOpp_any HS0 (x := x) (y := y) LX.out LY.out).mono ?_
            rintro r' w1 ⟨rfl, rfl⟩
            cases h8 : decide (oppP o x y)
            · go_wp2_with fail
              have hp := HS0.out.ptr
              go_region_held3 (fun W' => (W'.cell? ⟨br, 0, none⟩ = some (.pointer (some ⟨bw, 0, none⟩)) ∧ W'.cell? ⟨gx, 0, none⟩ = some (.int .i64 op) ∧ W'.cell? ⟨gx, 1, none⟩ = some (.int .i64 i) ∧ W'.cell? ⟨gx, 2, none⟩ = some (.int .i64 e) ∧ W'.cell? ⟨gx, 3, none⟩ = some (.int .i64 g) ∧ W'.cell? ⟨gx, 4, none⟩ = some (.int .i64 (x : Int)) ∧ W'.cell? ⟨gx, 5, none⟩ = some (.int .i64 (y : Int)))) (first | assumption | (refine ⟨?_, ?_, ?_, ?_, ?_, ?_, ?_⟩ <;> assumption))
                (first | (go_at_call 64; refine ((Si.addD HS0 HF0 HA0.out HBX0 HN.out LM.out)).mono ?_; rintro e' w1 ⟨rfl, h3, h4, k0, k1, k2, k3, k4, k5, k6⟩))
              go_wp2
              go_ret
              have h1' := of_decide_eq_false h1
              have h2' := of_decide_eq_false h2
              have h5' := of_decide_eq_false h5
              have h6' := of_decide_eq_false h6
              have h8' := of_decide_eq_false h8
              have h7' : ¬ x = y := by omega
              rw [show sJoinP o ⟨op, i, e, g, (x : Int), (y : Int)⟩ ne de x y = putNd o ⟨op, i, e, g, (x : Int), (y : Int)⟩ from by unfold sJoinP; rcases hde with ⟨rfl, rfl⟩ | ⟨rfl, rfl⟩ <;> simp [h1', h2', h5', h6', h7', h8']]
              exact ⟨rfl, h3, h4⟩
            · go_wp2_with fail
              refine (sConst_any HS0 HF0 (c := de) (by omega) LM.out).mono ?_
              rintro r' w1 ⟨rfl, h3, h4⟩
              go_wp2
              go_ret
              have h1' := of_decide_eq_false h1
              have h2' := of_decide_eq_false h2
              have h5' := of_decide_eq_false h5
              have h6' := of_decide_eq_false h6
              have h8' := of_decide_eq_true h8
              have h7' : ¬ x = y := by omega
              rw [show sJoinP o ⟨op, i, e, g, (x : Int), (y : Int)⟩ ne de x y = cPut o de from by unfold sJoinP; rcases hde with ⟨rfl, rfl⟩ | ⟨rfl, rfl⟩ <;> simp [h1', h2', h5', h6', h7', h8']]
              exact ⟨rfl, h3, h4⟩
        · go_wp2_with fail
          go_ret
          have h1' := of_decide_eq_false h1
          have h2' := of_decide_eq_false h2
          have h5' := of_decide_eq_false h5
          have h6' := of_decide_eq_true h6
          rw [show sJoinP o ⟨op, i, e, g, (x : Int), (y : Int)⟩ ne de x y = (x, o) from by unfold sJoinP; rcases hde with ⟨rfl, rfl⟩ | ⟨rfl, rfl⟩ <;> simp [h1', h5', h6']]
          exact ⟨rfl, HS0, HF0⟩
      · go_wp2_with fail
        go_ret
        have h1' := of_decide_eq_false h1
        have h2' := of_decide_eq_false h2
        have h5' := of_decide_eq_true h5
        rw [show sJoinP o ⟨op, i, e, g, (x : Int), (y : Int)⟩ ne de x y = (y, o) from by unfold sJoinP; rcases hde with ⟨rfl, rfl⟩ | ⟨rfl, rfl⟩ <;> simp [h2', h5']]
        exact ⟨rfl, HS0, HF0⟩
    · go_wp2_with fail
      refine (sConst_any HS0 HF0 (c := de) (by omega) LM.out).mono ?_
      rintro r' w1 ⟨rfl, h3, h4⟩
      go_wp2
      go_ret
      have h1' := of_decide_eq_false h1
      have h2' := of_decide_eq_true h2
      rw [show sJoinP o ⟨op, i, e, g, (x : Int), (y : Int)⟩ ne de x y = cPut o de from by unfold sJoinP; rcases hde with ⟨rfl, rfl⟩ | ⟨rfl, rfl⟩ <;> simp [h1', h2']]
      exact ⟨rfl, h3, h4⟩
  · go_wp2_with fail
    refine (sConst_any HS0 HF0 (c := de) (by omega) LM.out).mono ?_
    rintro r' w1 ⟨rfl, h3, h4⟩
    go_wp2
    go_ret
    have h1' := of_decide_eq_true h1
    rw [show sJoinP o ⟨op, i, e, g, (x : Int), (y : Int)⟩ ne de x y = cPut o de from by unfold sJoinP; rcases hde with ⟨rfl, rfl⟩ | ⟨rfl, rfl⟩ <;> simp [h1']]
    exact ⟨rfl, h3, h4⟩
end Go.Proofs.YtcdmchaehafijaaDoor
/- Layer 8: the simplifier's Imp. -/
namespace Go.Proofs.YtcdmchaehafijaaDoor
open Go.RowKit Go.Proofs.Ws Go.Maps
set_option maxRecDepth 100000
set_option maxHeartbeats 4000000 in
theorem sImp_any {B base bw bm br : Nat} {W : World} {o : List Nd} (h : Si B base bw bm br W o) (op i e g : Int) (x y : Nat) (hx : x < o.length) (hy : y < o.length) (hn : NodeIn o ⟨op, i, e, g, (x : Int), (y : Int)⟩) (hm : o.length ≤ 1000000) :
    Calls Tryd.prog 60 #[.pointer (some ⟨br, 0, none⟩), nv ⟨op, i, e, g, (x : Int), (y : Int)⟩] W (BuOk B base bw bm br W (sImpP o ⟨op, i, e, g, (x : Int), (y : Int)⟩ x y)) := by
  have lbr := h.as_.lt
  have HS0 : Hid (Si B base bw bm br (W.alloc (.cells #[.int .i64 op, .int .i64 i, .int .i64 e, .int .i64 g, .int .i64 (x : Int), .int .i64 (y : Int)] 53)) o) := Lib.hid (h.below ((Below.refl _ W).alloc (Nat.le_refl _) _))
  have HF0 : Hid (Fb bw bm W (W.alloc (.cells #[.int .i64 op, .int .i64 i, .int .i64 e, .int .i64 g, .int .i64 (x : Int), .int .i64 (y : Int)] 53))) := Lib.hid (Fb.of_below ((Below.refl _ W).alloc (Nat.le_refl _) _) h.bu.lwB)
  have HBX0 : Hid (Box (W.alloc (.cells #[.int .i64 op, .int .i64 i, .int .i64 e, .int .i64 g, .int .i64 (x : Int), .int .i64 (y : Int)] 53)) W.heap.size ⟨op, i, e, g, (x : Int), (y : Int)⟩) := Lib.hid (Box.made W ⟨op, i, e, g, (x : Int), (y : Int)⟩ 53)
  have HA0 := Lib.hid (AsideB.new (g := W.heap.size) h.bu.st ((Below.refl _ W).alloc (Nat.le_refl _) (.cells #[.int .i64 op, .int .i64 i, .int .i64 e, .int .i64 g, .int .i64 (x : Int), .int .i64 (y : Int)] 53)) (Nat.le_refl _) (by simp))
  have LX := Lib.hid hx
  have LM := Lib.hid hm
  have LY := Lib.hid hy
  have HN := Lib.hid hn
  clear h hx hm hy hn
  unfold nv
  go_enter Tryd.func60, Tryd.ntmps60
  go_wp2_with fail
  go_quiet (fail)
  go_wp2_with fail
  replace HS0 : Hid (Si B base bw bm br ((W.alloc (.cells #[.int .i64 op, .int .i64 i, .int .i64 e, .int .i64 g, .int .i64 (x : Int), .int .i64 (y : Int)] 53)).drewN nq) o) := Lib.hid (HS0.out.drewN nq)
  replace HF0 : Hid (Fb bw bm W ((W.alloc (.cells #[.int .i64 op, .int .i64 i, .int .i64 e, .int .i64 g, .int .i64 (x : Int), .int .i64 (y : Int)] 53)).drewN nq)) := Lib.hid (HF0.out.drewN nq)
  replace HBX0 : Hid (Box ((W.alloc (.cells #[.int .i64 op, .int .i64 i, .int .i64 e, .int .i64 g, .int .i64 (x : Int), .int .i64 (y : Int)] 53)).drewN nq) W.heap.size ⟨op, i, e, g, (x : Int), (y : Int)⟩) := Lib.hid HBX0.out
  replace HA0 : Hid (AsideB ((W.alloc (.cells #[.int .i64 op, .int .i64 i, .int .i64 e, .int .i64 g, .int .i64 (x : Int), .int .i64 (y : Int)] 53)).drewN nq) bw bm W.heap.size) := Lib.hid (HA0.out.drewN nq)
  generalize (W.alloc (.cells #[.int .i64 op, .int .i64 i, .int .i64 e, .int .i64 g, .int .i64 (x : Int), .int .i64 (y : Int)] 53)).drewN nq = w0 at *
  generalize W.heap.size = gx at *
  obtain ⟨b0, b1, b2, b3, b4, b5, bf⟩ := HBX0.out
  dsimp only at b0 b1 b2 b3 b4 b5
  clear bf
  refine (sIs_any HS0 (c := 2) (x := x) LX.out).mono ?_
  rintro r' w1 ⟨rfl, rfl⟩
  cases h1 : decide (opTp o x = 2)
  · go_wp2_with fail
    refine (sIs_any HS0 (c := 1) (x := y) LY.out).mono ?_
    rintro r' w1 ⟨rfl, rfl⟩
    cases h2 : decide (opTp o y = 1)
    · by_cases h5 : (x : Int) = (y : Int)
      · have hyx : x = y := by omega
        subst hyx
        go_wp2_with fail
        refine (sConst_any HS0 HF0 (c := 1) (by omega) LM.out).mono ?_
        rintro r' w1 ⟨rfl, h3, h4⟩
        go_wp2
        go_ret
        have h1' := of_decide_eq_false h1
        have h2' := of_decide_eq_false h2
        rw [show sImpP o ⟨op, i, e, g, (x : Int), (x : Int)⟩ x x = cPut o 1 from by unfold sImpP; simp [h1', h2']]
        exact ⟨rfl, h3, h4⟩
      · go_wp2_with fail
        refine (sIs_any HS0 (c := 1) (x := x) LX.out).mono ?_
        rintro r' w1 ⟨rfl, rfl⟩
        cases h6 : decide (opTp o x = 1)
        · go_wp2_with fail
          refine (sIs_any HS0 (c := 2) (x := y) LY.out).mono ?_
          rintro r' w1 ⟨rfl, rfl⟩
          cases h7 : decide (opTp o y = 2)
          · go_wp2_with fail
            have hp := HS0.out.ptr
            go_region_held3 (fun W' => (W'.cell? ⟨br, 0, none⟩ = some (.pointer (some ⟨bw, 0, none⟩)) ∧ W'.cell? ⟨gx, 0, none⟩ = some (.int .i64 op) ∧ W'.cell? ⟨gx, 1, none⟩ = some (.int .i64 i) ∧ W'.cell? ⟨gx, 2, none⟩ = some (.int .i64 e) ∧ W'.cell? ⟨gx, 3, none⟩ = some (.int .i64 g) ∧ W'.cell? ⟨gx, 4, none⟩ = some (.int .i64 (x : Int)) ∧ W'.cell? ⟨gx, 5, none⟩ = some (.int .i64 (y : Int)))) (first | assumption | (refine ⟨?_, ?_, ?_, ?_, ?_, ?_, ?_⟩ <;> assumption))
              (first | (go_at_call 64; refine ((Si.addD HS0 HF0 HA0.out HBX0 HN.out LM.out)).mono ?_; rintro e' w1 ⟨rfl, h3, h4, k0, k1, k2, k3, k4, k5, k6⟩))
            go_wp2
            go_ret
            have h1' := of_decide_eq_false h1
            have h2' := of_decide_eq_false h2
            have h6' := of_decide_eq_false h6
            have h7' := of_decide_eq_false h7
            have h5' : ¬ x = y := by omega
            rw [show sImpP o ⟨op, i, e, g, (x : Int), (y : Int)⟩ x y = putNd o ⟨op, i, e, g, (x : Int), (y : Int)⟩ from by unfold sImpP; simp [h1', h2', h5', h6', h7']]
            exact ⟨rfl, h3, h4⟩
          · have hp := HS0.out.ptr
            go_wp2_with fail
            refine (Si.neg HS0 HF0 (x := x) LX.out LM.out).mono ?_
            rintro r' w1 ⟨rfl, h3, h4⟩
            go_wp2
            go_ret
            have h1' := of_decide_eq_false h1
            have h2' := of_decide_eq_false h2
            have h6' := of_decide_eq_false h6
            have h7' := of_decide_eq_true h7
            have h5' : ¬ x = y := by omega
            rw [show sImpP o ⟨op, i, e, g, (x : Int), (y : Int)⟩ x y = negP o x from by unfold sImpP; simp [h1', h5', h6', h7']]
            exact ⟨rfl, h3, h4⟩
        · go_wp2_with fail
          go_ret
          have h1' := of_decide_eq_false h1
          have h2' := of_decide_eq_false h2
          have h6' := of_decide_eq_true h6
          have h5' : ¬ x = y := by omega
          rw [show sImpP o ⟨op, i, e, g, (x : Int), (y : Int)⟩ x y = (y, o) from by unfold sImpP; simp [h2', h5', h6']]
          exact ⟨rfl, HS0, HF0⟩
    · go_wp2_with fail
      refine (sConst_any HS0 HF0 (c := 1) (by omega) LM.out).mono ?_
      rintro r' w1 ⟨rfl, h3, h4⟩
      go_wp2
      go_ret
      have h1' := of_decide_eq_false h1
      have h2' := of_decide_eq_true h2
      rw [show sImpP o ⟨op, i, e, g, (x : Int), (y : Int)⟩ x y = cPut o 1 from by unfold sImpP; simp [h1', h2']]
      exact ⟨rfl, h3, h4⟩
  · go_wp2_with fail
    refine (sConst_any HS0 HF0 (c := 1) (by omega) LM.out).mono ?_
    rintro r' w1 ⟨rfl, h3, h4⟩
    go_wp2
    go_ret
    have h1' := of_decide_eq_true h1
    rw [show sImpP o ⟨op, i, e, g, (x : Int), (y : Int)⟩ x y = cPut o 1 from by unfold sImpP; simp [h1']]
    exact ⟨rfl, h3, h4⟩
end Go.Proofs.YtcdmchaehafijaaDoor
/- Layer 8: the simplifier's Iff. -/
namespace Go.Proofs.YtcdmchaehafijaaDoor
open Go.RowKit Go.Proofs.Ws Go.Maps
set_option maxRecDepth 100000
set_option maxHeartbeats 4000000 in
theorem sIff_any {B base bw bm br : Nat} {W : World} {o : List Nd} (h : Si B base bw bm br W o) (op i e g : Int) (x y : Nat) (hx : x < o.length) (hy : y < o.length) (hn : NodeIn o ⟨op, i, e, g, (x : Int), (y : Int)⟩) (hm : o.length ≤ 1000000) :
    Calls Tryd.prog 61 #[.pointer (some ⟨br, 0, none⟩), nv ⟨op, i, e, g, (x : Int), (y : Int)⟩] W (BuOk B base bw bm br W (sIffP o ⟨op, i, e, g, (x : Int), (y : Int)⟩ x y)) := by
  have lbr := h.as_.lt
  have HS0 : Hid (Si B base bw bm br (W.alloc (.cells #[.int .i64 op, .int .i64 i, .int .i64 e, .int .i64 g, .int .i64 (x : Int), .int .i64 (y : Int)] 53)) o) := Lib.hid (h.below ((Below.refl _ W).alloc (Nat.le_refl _) _))
  have HF0 : Hid (Fb bw bm W (W.alloc (.cells #[.int .i64 op, .int .i64 i, .int .i64 e, .int .i64 g, .int .i64 (x : Int), .int .i64 (y : Int)] 53))) := Lib.hid (Fb.of_below ((Below.refl _ W).alloc (Nat.le_refl _) _) h.bu.lwB)
  have HBX0 : Hid (Box (W.alloc (.cells #[.int .i64 op, .int .i64 i, .int .i64 e, .int .i64 g, .int .i64 (x : Int), .int .i64 (y : Int)] 53)) W.heap.size ⟨op, i, e, g, (x : Int), (y : Int)⟩) := Lib.hid (Box.made W ⟨op, i, e, g, (x : Int), (y : Int)⟩ 53)
  have HA0 := Lib.hid (AsideB.new (g := W.heap.size) h.bu.st ((Below.refl _ W).alloc (Nat.le_refl _) (.cells #[.int .i64 op, .int .i64 i, .int .i64 e, .int .i64 g, .int .i64 (x : Int), .int .i64 (y : Int)] 53)) (Nat.le_refl _) (by simp))
  have LX := Lib.hid hx
  have LM := Lib.hid hm
  have LY := Lib.hid hy
  have HN := Lib.hid hn
  clear h hx hm hy hn
  unfold nv
  go_enter Tryd.func61, Tryd.ntmps61
  go_wp2_with fail
  go_quiet (fail)
  replace HS0 : Hid (Si B base bw bm br ((W.alloc (.cells #[.int .i64 op, .int .i64 i, .int .i64 e, .int .i64 g, .int .i64 (x : Int), .int .i64 (y : Int)] 53)).drewN nq) o) := Lib.hid (HS0.out.drewN nq)
  replace HF0 : Hid (Fb bw bm W ((W.alloc (.cells #[.int .i64 op, .int .i64 i, .int .i64 e, .int .i64 g, .int .i64 (x : Int), .int .i64 (y : Int)] 53)).drewN nq)) := Lib.hid (HF0.out.drewN nq)
  replace HBX0 : Hid (Box ((W.alloc (.cells #[.int .i64 op, .int .i64 i, .int .i64 e, .int .i64 g, .int .i64 (x : Int), .int .i64 (y : Int)] 53)).drewN nq) W.heap.size ⟨op, i, e, g, (x : Int), (y : Int)⟩) := Lib.hid HBX0.out
  replace HA0 : Hid (AsideB ((W.alloc (.cells #[.int .i64 op, .int .i64 i, .int .i64 e, .int .i64 g, .int .i64 (x : Int), .int .i64 (y : Int)] 53)).drewN nq) bw bm W.heap.size) := Lib.hid (HA0.out.drewN nq)
  generalize (W.alloc (.cells #[.int .i64 op, .int .i64 i, .int .i64 e, .int .i64 g, .int .i64 (x : Int), .int .i64 (y : Int)] 53)).drewN nq = w0 at *
  generalize W.heap.size = gx at *
  obtain ⟨b0, b1, b2, b3, b4, b5, bf⟩ := HBX0.out
  dsimp only at b0 b1 b2 b3 b4 b5
  clear bf
  by_cases h1 : (x : Int) = (y : Int)
  · have hyx : x = y := by omega
    subst hyx
    go_wp2_with fail
    refine (sConst_any HS0 HF0 (c := 1) (by omega) LM.out).mono ?_
    rintro r' w1 ⟨rfl, h3, h4⟩
    go_wp2
    go_ret
    rw [show sIffP o ⟨op, i, e, g, (x : Int), (x : Int)⟩ x x = cPut o 1 from by unfold sIffP; simp []]
    exact ⟨rfl, h3, h4⟩
  · go_wp2_with fail
    refine (sOpp_any HS0 (x := x) (y := y) LX.out LY.out).mono ?_
    rintro r' w1 ⟨rfl, rfl⟩
    cases h2 : decide (oppP o x y)
    · go_wp2_with fail
      refine (sIs_any HS0 (c := 1) (x := x) LX.out).mono ?_
      rintro r' w1 ⟨rfl, rfl⟩
      cases h5 : decide (opTp o x = 1)
      · go_wp2_with fail
        refine (sIs_any HS0 (c := 1) (x := y) LY.out).mono ?_
        rintro r' w1 ⟨rfl, rfl⟩
        cases h6 : decide (opTp o y = 1)
        · go_wp2_with fail
          refine (sIs_any HS0 (c := 2) (x := x) LX.out).mono ?_
          rintro r' w1 ⟨rfl, rfl⟩
          cases h7 : decide (opTp o x = 2)
          · go_wp2_with fail
            refine (sIs_any HS0 (c := 2) (x := y) LY.out).mono ?_
            rintro r' w1 ⟨rfl, rfl⟩
            cases h8 : decide (opTp o y = 2)
            · go_wp2_with fail
              have hp := HS0.out.ptr
              go_region_held3 (fun W' => (W'.cell? ⟨br, 0, none⟩ = some (.pointer (some ⟨bw, 0, none⟩)) ∧ W'.cell? ⟨gx, 0, none⟩ = some (.int .i64 op) ∧ W'.cell? ⟨gx, 1, none⟩ = some (.int .i64 i) ∧ W'.cell? ⟨gx, 2, none⟩ = some (.int .i64 e) ∧ W'.cell? ⟨gx, 3, none⟩ = some (.int .i64 g) ∧ W'.cell? ⟨gx, 4, none⟩ = some (.int .i64 (x : Int)) ∧ W'.cell? ⟨gx, 5, none⟩ = some (.int .i64 (y : Int)))) (first | assumption | (refine ⟨?_, ?_, ?_, ?_, ?_, ?_, ?_⟩ <;> assumption))
                (first | (go_at_call 64; refine ((Si.addD HS0 HF0 HA0.out HBX0 HN.out LM.out)).mono ?_; rintro e' w1 ⟨rfl, h3, h4, k0, k1, k2, k3, k4, k5, k6⟩))
              go_wp2
              go_ret
              have h2' := of_decide_eq_false h2
              have h5' := of_decide_eq_false h5
              have h6' := of_decide_eq_false h6
              have h7' := of_decide_eq_false h7
              have h8' := of_decide_eq_false h8
              have h1' : ¬ x = y := by omega
              rw [show sIffP o ⟨op, i, e, g, (x : Int), (y : Int)⟩ x y = putNd o ⟨op, i, e, g, (x : Int), (y : Int)⟩ from by unfold sIffP; simp [h1', h2', h5', h6', h7', h8']]
              exact ⟨rfl, h3, h4⟩
            · have hp := HS0.out.ptr
              go_wp2_with fail
              refine (Si.neg HS0 HF0 (x := x) LX.out LM.out).mono ?_
              rintro r' w1 ⟨rfl, h3, h4⟩
              go_wp2
              go_ret
              have h2' := of_decide_eq_false h2
              have h5' := of_decide_eq_false h5
              have h6' := of_decide_eq_false h6
              have h7' := of_decide_eq_false h7
              have h8' := of_decide_eq_true h8
              have h1' : ¬ x = y := by omega
              rw [show sIffP o ⟨op, i, e, g, (x : Int), (y : Int)⟩ x y = negP o x from by unfold sIffP; simp [h1', h2', h5', h7', h8']]
              exact ⟨rfl, h3, h4⟩
          · have hp := HS0.out.ptr
            go_wp2_with fail
            refine (Si.neg HS0 HF0 (x := y) LY.out LM.out).mono ?_
            rintro r' w1 ⟨rfl, h3, h4⟩
            go_wp2
            go_ret
            have h2' := of_decide_eq_false h2
            have h5' := of_decide_eq_false h5
            have h6' := of_decide_eq_false h6
            have h7' := of_decide_eq_true h7
            have h1' : ¬ x = y := by omega
            rw [show sIffP o ⟨op, i, e, g, (x : Int), (y : Int)⟩ x y = negP o y from by unfold sIffP; simp [h1', h2', h6', h7']]
            exact ⟨rfl, h3, h4⟩
        · go_wp2_with fail
          go_ret
          have h2' := of_decide_eq_false h2
          have h5' := of_decide_eq_false h5
          have h6' := of_decide_eq_true h6
          have h1' : ¬ x = y := by omega
          rw [show sIffP o ⟨op, i, e, g, (x : Int), (y : Int)⟩ x y = (x, o) from by unfold sIffP; simp [h1', h2', h5', h6']]
          exact ⟨rfl, HS0, HF0⟩
      · go_wp2_with fail
        go_ret
        have h2' := of_decide_eq_false h2
        have h5' := of_decide_eq_true h5
        have h1' : ¬ x = y := by omega
        rw [show sIffP o ⟨op, i, e, g, (x : Int), (y : Int)⟩ x y = (y, o) from by unfold sIffP; simp [h1', h2', h5']]
        exact ⟨rfl, HS0, HF0⟩
    · go_wp2_with fail
      refine (sConst_any HS0 HF0 (c := 2) (by omega) LM.out).mono ?_
      rintro r' w1 ⟨rfl, h3, h4⟩
      go_wp2
      go_ret
      have h2' := of_decide_eq_true h2
      have h1' : ¬ x = y := by omega
      rw [show sIffP o ⟨op, i, e, g, (x : Int), (y : Int)⟩ x y = cPut o 2 from by unfold sIffP; simp [h1', h2']]
      exact ⟨rfl, h3, h4⟩
end Go.Proofs.YtcdmchaehafijaaDoor
