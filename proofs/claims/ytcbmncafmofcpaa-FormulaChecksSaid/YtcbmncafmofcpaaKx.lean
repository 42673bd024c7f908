/- Layer 5: the program's finish, at any node. -/
import Derived.Test.YtcbmncafmofcpaaKu
namespace Go.Proofs.Ytcbmncafmofcpaa
open Go.RowKit Go.Proofs.Ws Go.Maps
/-- a node whose fields are in their ranges, with numbers of operands below 1000 -/
structure NdR (n : Nd) : Prop where
  op : 0 ≤ n.op ∧ n.op < 1000
  i : 0 ≤ n.i ∧ n.i < 1000
  e : 0 ≤ n.e ∧ n.e < 1000
  g : 0 ≤ n.g ∧ n.g < 1000
theorem NdR.wide {n : Nd} (h : NdR n) (hx : 0 ≤ n.x ∧ n.x ≤ 1000) (hy : 0 ≤ n.y ∧ n.y ≤ 1000) : NdW n :=
  ⟨WalkArith.wf_i64 (by have := h.op; omega), WalkArith.wf_i64 (by have := h.i; omega), WalkArith.wf_i64 (by have := h.e; omega), WalkArith.wf_i64 (by have := h.g; omega), WalkArith.wf_i64 (by omega), WalkArith.wf_i64 (by omega)⟩
theorem NdR.withX {m : Nd} (h : NdR m) {x : Nat} (hx : x ≤ 1000) (hy : m.y = 0) : NdW { m with x := (x : Int) } := by
  have h0 := h.op
  have h1 := h.i
  have h2 := h.e
  have h3 := h.g
  refine ⟨?_, ?_, ?_, ?_, ?_, ?_⟩
  · show (Lit.int .i64 m.op).wf = true
    exact WalkArith.wf_i64 (by omega)
  · show (Lit.int .i64 m.i).wf = true
    exact WalkArith.wf_i64 (by omega)
  · show (Lit.int .i64 m.e).wf = true
    exact WalkArith.wf_i64 (by omega)
  · show (Lit.int .i64 m.g).wf = true
    exact WalkArith.wf_i64 (by omega)
  · show (Lit.int .i64 (x : Int)).wf = true
    exact WalkArith.wf_i64 (by omega)
  · show (Lit.int .i64 m.y).wf = true
    exact WalkArith.wf_i64 (by omega)
theorem NdR.withXY {m : Nd} (h : NdR m) {x y : Nat} (hx : x ≤ 1000) (hy : y ≤ 1000) : NdW { m with x := (x : Int), y := (y : Int) } := by
  have h0 := h.op
  have h1 := h.i
  have h2 := h.e
  have h3 := h.g
  refine ⟨?_, ?_, ?_, ?_, ?_, ?_⟩
  · show (Lit.int .i64 m.op).wf = true
    exact WalkArith.wf_i64 (by omega)
  · show (Lit.int .i64 m.i).wf = true
    exact WalkArith.wf_i64 (by omega)
  · show (Lit.int .i64 m.e).wf = true
    exact WalkArith.wf_i64 (by omega)
  · show (Lit.int .i64 m.g).wf = true
    exact WalkArith.wf_i64 (by omega)
  · show (Lit.int .i64 (x : Int)).wf = true
    exact WalkArith.wf_i64 (by omega)
  · show (Lit.int .i64 (y : Int)).wf = true
    exact WalkArith.wf_i64 (by omega)
theorem shO_2 {op : Int} (h : usesY op = true) : shO op = 2 := by unfold shO; rw [if_pos h]
theorem shO_1 {op : Int} (h : usesY op = false) (hx : usesX op = true) : shO op = 1 := by unfold shO; rw [if_neg (by rw [h]; decide), if_pos hx]
theorem shO_0 {op : Int} (h : usesY op = false) (hx : usesX op = false) : shO op = 0 := by unfold shO; rw [if_neg (by rw [h]; decide), if_neg (by rw [hx]; decide)]
theorem pFinish_any (f : List Nd) (hf : opsL f) (hr : ∀ i, i < f.length → NdR (f.getD i nd0)) (A : Option Addr) (n c B base bw bp bm : Nat) (hn : n ≤ 1000) (hl : f.length = n) (hB1 : B ≤ bw) (hB2 : B ≤ bp) (hB4 : B ≤ bm) (hB3 : B ≤ base) :
    ∀ (fuel i : Nat) (s : Wk) (w : World), i < fuel → i < n → Cnt s → PW w base bw bp bm A c n s → Reads w B 6 A n (nds f) →
      Calls Try.prog 92 #[.pointer (some ⟨bw, 0, none⟩), .int .i64 (i : Int)] w fun e w' =>
        e = .returned (.int .i64 ((finW f fuel i s).1 : Nat)) ∧ PW w' base bw bp bm A c n (finW f fuel i s).2 ∧ Fp bw bp bm w w' := by
  intro fuel
  induction fuel with
  | zero => intro i s w h; omega
  | succ fuel ih =>
    intro i s w h hi hc hS hR
    have hsl : s.done.length = f.length := by rw [hS.len, hl]
    cases hd : s.done.getD i none with
    | some k =>
      have e0 : finW f (fuel + 1) i s = (k, s) := by unfold finW; rw [hd]
      rw [e0]
      have hk := hc.2 i k hd
      have hk2 := hc.le hS.len
      refine (pFin_old base bw bp bm c n i k A s w hi (by omega) hS hd).mono ?_
      rintro e w' ⟨rfl, rfl⟩
      exact ⟨rfl, hS, Fp.of_below (Below.refl _ _) (Nat.lt_of_lt_of_le hS.lw hS.lb)⟩
    | none =>
      have ho := hf i (by omega)
      have hri := hr i (by omega)
      have numle : ∀ (j : Nat) (t : Wk), j < fuel → j < n → Cnt t → t.done.length = n → (finW f fuel j t).1 ≤ 1000 := by
        intro j t h1 h2 h3 h4
        obtain ⟨b1, b2, _⟩ := finW_cnt hf fuel j t h1 (by omega) (by omega) h3
        have h5 := finW_done hf fuel j t h1 (by omega) (by omega)
        have h6 := b1.2 j _ h5
        have h7 := b1.le b2
        omega
      cases hux : usesX (f.getD i nd0).op with
      | false =>
        have huy : usesY (f.getD i nd0).op = false := by
          cases hq : usesY (f.getD i nd0).op
          · rfl
          · rw [usesY_X hq] at hux; cases hux
        have e1 : (f.getD i nd0).x = 0 := by have := ho.1; rw [if_neg (by rw [hux]; decide)] at this; exact this
        have e2 : (f.getD i nd0).y = 0 := by have := ho.2; rw [if_neg (by rw [huy]; decide)] at this; exact this
        have e3 : ({ f.getD i nd0 with x := (((f.getD i nd0).x.toNat : Nat) : Int), y := (((f.getD i nd0).y.toNat : Nat) : Int) } : Nd) = f.getD i nd0 := by
          rw [e1, e2]; cases hq : f.getD i nd0; rw [hq] at e1 e2; simp at e1 e2; simp [e1, e2]
        have e0 : finW f (fuel + 1) i s = ((putNd s.out (f.getD i nd0)).1, ⟨(putNd s.out (f.getD i nd0)).2, s.done.set i (some (putNd s.out (f.getD i nd0)).1)⟩) := by
          unfold finW; rw [hd]; simp only [hux, huy, Bool.false_eq_true, if_false]; rw [e3]
        rw [e0]
        exact pFin_new B base bw bp bm c n i A f s s _ _ w hi hn hS hd hR rfl hc (hri.wide (by omega) (by omega)) (fun W h1 h2 => pRen_0 B base bw bp bm c n A f s _ W h1 h2 hB3 (shO_0 huy hux))
      | true =>
        have ox := opsOk_x ho hux
        obtain ⟨a1, a2, _⟩ := finW_cnt hf fuel (f.getD i nd0).x.toNat s (by omega) (by omega) hsl hc
        have n1 := numle (f.getD i nd0).x.toNat s (by omega) (by omega) hc hS.len
        have HX : ∀ W, PW W base bw bp bm A c n s → Reads W B 6 A n (nds f) → Calls Try.prog 92 #[.pointer (some ⟨bw, 0, none⟩), .int .i64 (f.getD i nd0).x] W fun e W' => e = .returned (.int .i64 ((finW f fuel (f.getD i nd0).x.toNat s).1 : Int)) ∧ PW W' base bw bp bm A c n (finW f fuel (f.getD i nd0).x.toNat s).2 ∧ Fp bw bp bm W W' := fun W h1 h2 => by
          have := ih (f.getD i nd0).x.toNat s W (by omega) (by omega) hc h1 h2
          rw [Int.toNat_of_nonneg ox.1] at this
          exact this
        cases huy : usesY (f.getD i nd0).op with
        | false =>
          have e2 : (f.getD i nd0).y = 0 := by have := ho.2; rw [if_neg (by rw [huy]; decide)] at this; exact this
          have e0 : finW f (fuel + 1) i s = ((putNd (finW f fuel (f.getD i nd0).x.toNat s).2.out { f.getD i nd0 with x := ((finW f fuel (f.getD i nd0).x.toNat s).1 : Int) }).1, ⟨(putNd (finW f fuel (f.getD i nd0).x.toNat s).2.out { f.getD i nd0 with x := ((finW f fuel (f.getD i nd0).x.toNat s).1 : Int) }).2, (finW f fuel (f.getD i nd0).x.toNat s).2.done.set i (some (putNd (finW f fuel (f.getD i nd0).x.toNat s).2.out { f.getD i nd0 with x := ((finW f fuel (f.getD i nd0).x.toNat s).1 : Int) }).1)⟩) := by
            rw [finW, hd]; simp only [hux, huy, Bool.false_eq_true, if_false, if_true]
            rw [show (((f.getD i nd0).y.toNat : Nat) : Int) = (f.getD i nd0).y from by rw [e2]; rfl]
          rw [e0]
          have hw := hri.withX n1 e2
          exact pFin_new B base bw bp bm c n i A f s _ _ _ w hi hn hS hd hR rfl a1 hw (fun W h1 h2 => pRen_1 B base bw bp bm c n A f s _ _ _ W h1 h2 hB1 hB2 hB4 hB3 (shO_1 huy hux) HX)
        | true =>
          have oy := opsOk_y ho huy
          have e0 : finW f (fuel + 1) i s = ((putNd (finW f fuel (f.getD i nd0).y.toNat (finW f fuel (f.getD i nd0).x.toNat s).2).2.out { f.getD i nd0 with x := ((finW f fuel (f.getD i nd0).x.toNat s).1 : Int), y := ((finW f fuel (f.getD i nd0).y.toNat (finW f fuel (f.getD i nd0).x.toNat s).2).1 : Int) }).1, ⟨(putNd (finW f fuel (f.getD i nd0).y.toNat (finW f fuel (f.getD i nd0).x.toNat s).2).2.out { f.getD i nd0 with x := ((finW f fuel (f.getD i nd0).x.toNat s).1 : Int), y := ((finW f fuel (f.getD i nd0).y.toNat (finW f fuel (f.getD i nd0).x.toNat s).2).1 : Int) }).2, (finW f fuel (f.getD i nd0).y.toNat (finW f fuel (f.getD i nd0).x.toNat s).2).2.done.set i (some (putNd (finW f fuel (f.getD i nd0).y.toNat (finW f fuel (f.getD i nd0).x.toNat s).2).2.out { f.getD i nd0 with x := ((finW f fuel (f.getD i nd0).x.toNat s).1 : Int), y := ((finW f fuel (f.getD i nd0).y.toNat (finW f fuel (f.getD i nd0).x.toNat s).2).1 : Int) }).1)⟩) := by
            rw [finW, hd]; simp only [hux, huy, if_true]
          rw [e0]
          generalize finW f fuel (f.getD i nd0).x.toNat s = r1 at *
          obtain ⟨b1, b2, _⟩ := finW_cnt hf fuel (f.getD i nd0).y.toNat r1.2 (by omega) (by omega) a2 a1
          have n2 := numle (f.getD i nd0).y.toNat r1.2 (by omega) (by omega) a1 (by omega)
          have HY : ∀ W, PW W base bw bp bm A c n r1.2 → Reads W B 6 A n (nds f) → Calls Try.prog 92 #[.pointer (some ⟨bw, 0, none⟩), .int .i64 (f.getD i nd0).y] W fun e W' => e = .returned (.int .i64 ((finW f fuel (f.getD i nd0).y.toNat r1.2).1 : Int)) ∧ PW W' base bw bp bm A c n (finW f fuel (f.getD i nd0).y.toNat r1.2).2 ∧ Fp bw bp bm W W' := fun W h1 h2 => by
            have := ih (f.getD i nd0).y.toNat r1.2 W (by omega) (by omega) a1 h1 h2
            rw [Int.toNat_of_nonneg oy.1] at this
            exact this
          generalize finW f fuel (f.getD i nd0).y.toNat r1.2 = r2 at *
          have hw := hri.withXY n1 n2
          exact pFin_new B base bw bp bm c n i A f s r2.2 _ _ w hi hn hS hd hR rfl b1 hw (fun W h1 h2 => pRen_2 B base bw bp bm c n A f s r1.2 r2.2 r1.1 r2.1 _ W h1 h2 hB1 hB2 hB4 hB3 (shO_2 huy) HX HY)
end Go.Proofs.Ytcbmncafmofcpaa
