/- Layer 5: the reference's finish. -/
import Derived.Test.YtkkkomkljpolbaaDoorNJe
namespace Go.Proofs.YtkkkomkljpolbaaDoor
open Go.RowKit Go.Proofs.Ws
set_option maxRecDepth 100000 in
set_option maxHeartbeats 4000000 in
theorem rFin_old (A : Option Addr) (n c base bw bd i k : Nat) (s : Wk) (w : World) (hi : i < n) (hS : RW w base bw bd n s) (hd : s.done.getD i none = some k) :
    Calls Tryd.prog 139 #[.slice A n c, .int .i64 i, .pointer (some ⟨bw, 0, none⟩)] w fun e w' => e = .returned (.int .i64 (k : Int)) ∧ w = w' := by
  obtain ⟨c2, h3⟩ := hS.dn
  have hc := hS.cells i hi
  rw [hd] at hc
  replace hc : w.cell? ⟨bd, i, none⟩ = some (.int .i64 (k : Int)) := hc
  have hk : decide ((k : Int) ≥ 0) = true := by simp
  clear hS hd
  go_enter Tryd.func139, Tryd.ntmps139
  go_wp2
  go_ret
  exact ⟨rfl, rfl⟩
set_option maxRecDepth 100000 in
set_option maxHeartbeats 4000000 in
theorem rFin_ff (f : List Nd) (A : Option Addr) (n c B base bw bd i : Nat) (s : Wk) (x : Nd) (w : World) (hn : n ≤ 1000) (hi : i < n) (hS : RW w base bw bd n s) (hd : s.done.getD i none = none) (hR : Reads w B 6 A n (nds f))
    (hB3 : B ≤ base) (hx : f.getD i nd0 = x) (hk : known x.op = true) (hux : usesX x.op = false) (huy : usesY x.op = false) (hc2 : Cnt s) :
    Calls Tryd.prog 139 #[.slice A n c, .int .i64 i, .pointer (some ⟨bw, 0, none⟩)] w fun e w' =>
      e = .returned (.int .i64 ((putNd s.out x).1 : Nat)) ∧
      RW w' base bw bd n ⟨(putNd s.out x).2, s.done.set i (some (putNd s.out x).1)⟩ ∧ Fr bw bd w w' := by
  obtain ⟨c2, h3⟩ := hS.dn
  have hc := hS.cells i hi
  rw [hd] at hc
  replace hc : w.cell? ⟨bd, i, none⟩ = some (.int .i64 (-1)) := hc
  have hB4 : B ≤ w.heap.size := Nat.le_trans hB3 hS.lb
  obtain ⟨ad, rfl, hb, m0, m1, m2, m3, m4, m5⟩ := hR.nd_at hi
  rw [hx] at m0 m1 m2 m3 m4 m5
  have l1 := add_cell m1
  have l2 := add_cell m2
  have l3 := add_cell m3
  have l4 := add_cell m4
  have l5 := add_cell m5
  have HS := Lib.hid hS
  have HRR := Lib.hid hR
  have HUX := Lib.hid (fun W => rUsesX_any x.op hk W)
  have HUY := Lib.hid (fun W => rUsesY_any x.op hk W)
  rw [hux] at HUX
  rw [huy] at HUY
  have HC2 := Lib.hid hc2
  have HXX := Lib.hid hx
  have HP := Lib.hid (fun W (h : RW W base bw bd n s) => rPut_any x base bw bd n s W h (Nat.le_trans (HC2.out.le h.len) hn))
  generalize putNd s.out x = p at *
  clear hS hd hR hx hk hux huy hc2
  go_enter Tryd.func139, Tryd.ntmps139
  go_wp2_with fail
  refine (HUX.out _).mono ?_
  rintro e w1 ⟨rfl, rfl⟩
  have HQ0 := Lib.hid (RQ.start HS.out HRR.out hB4 x 62)
  clear hc h3 m0 m1 m2 m3 m4 m5 l1 l2 l3 l4 l5
  generalize w.alloc (.cells #[.int .i64 x.op, .int .i64 x.i, .int .i64 x.e, .int .i64 x.g, .int .i64 x.x, .int .i64 x.y] 62) = w0 at *
  obtain ⟨b0, b1, b2, b3, b4, b5, bf⟩ := HQ0.out.bx
  clear bf
  go_wp2_with fail
  refine (HUY.out _).mono ?_
  rintro e w2 ⟨rfl, rfl⟩
  clear b0 b1 b2 b3 b4 b5
  go_wp2_with fail
  obtain ⟨b0, b1, b2, b3, b4, b5, bf⟩ := HQ0.out.bx
  obtain ⟨c4, hd4⟩ := HQ0.out.st.dn
  have hc4 := HQ0.out.st.cells i hi
  have hf4 := HQ0.out.st.free i hi
  have HS4 := Lib.hid (HQ0.out.st.drewN 1)
  have HF4 := Lib.hid (HQ0.out.fr.drewN 1)
  have hne := HQ0.out.st.ne
  have hne2 := hne.symm
  clear bf
  go_region_with (go_at_call 155; refine (HP.out _ HS4.out).mono ?_; rintro e w5 ⟨rfl, hS5, hF5⟩; have HS5 := Lib.hid hS5; have HF5 := Lib.hid (HF4.out.trans hF5); clear hS5 hF5; obtain ⟨c5, hd5⟩ := HS5.out.dn; have hc5 := HS5.out.cells i hi; have hf5 := HS5.out.free i hi)
  all_goals clear b0 b1 b2 b3 b4 b5 hd4 hc4 hf4
  all_goals go_wp2
  all_goals go_ret
  all_goals exact ⟨rfl, HS5.out.set hi p.1, HF5.out.setD _ hne⟩
set_option maxRecDepth 100000 in
set_option maxHeartbeats 4000000 in
theorem rFin_tf (f : List Nd) (A : Option Addr) (n c B base bw bd i : Nat) (s s1 : Wk) (k1 : Nat) (x : Nd) (w : World) (hn : n ≤ 1000) (hi : i < n) (hS : RW w base bw bd n s) (hd : s.done.getD i none = none) (hR : Reads w B 6 A n (nds f))
    (hB1 : B ≤ bw) (hB2 : B ≤ bd) (hB3 : B ≤ base) (hx : f.getD i nd0 = x) (hk : known x.op = true) (hux : usesX x.op = true) (huy : usesY x.op = false) (hc2 : Cnt s1)
    (HX : ∀ W, RW W base bw bd n s → Reads W B 6 A n (nds f) → Calls Tryd.prog 139 #[.slice A n c, .int .i64 x.x, .pointer (some ⟨bw, 0, none⟩)] W fun e W' => e = .returned (.int .i64 (k1 : Int)) ∧ RW W' base bw bd n s1 ∧ Fr bw bd W W') :
    Calls Tryd.prog 139 #[.slice A n c, .int .i64 i, .pointer (some ⟨bw, 0, none⟩)] w fun e w' =>
      e = .returned (.int .i64 ((putNd s1.out { x with x := (k1 : Int) }).1 : Nat)) ∧
      RW w' base bw bd n ⟨(putNd s1.out { x with x := (k1 : Int) }).2, s1.done.set i (some (putNd s1.out { x with x := (k1 : Int) }).1)⟩ ∧ Fr bw bd w w' := by
  obtain ⟨c2, h3⟩ := hS.dn
  have hc := hS.cells i hi
  rw [hd] at hc
  replace hc : w.cell? ⟨bd, i, none⟩ = some (.int .i64 (-1)) := hc
  have hB4 : B ≤ w.heap.size := Nat.le_trans hB3 hS.lb
  obtain ⟨ad, rfl, hb, m0, m1, m2, m3, m4, m5⟩ := hR.nd_at hi
  rw [hx] at m0 m1 m2 m3 m4 m5
  have l1 := add_cell m1
  have l2 := add_cell m2
  have l3 := add_cell m3
  have l4 := add_cell m4
  have l5 := add_cell m5
  have HS := Lib.hid hS
  have HRR := Lib.hid hR
  have HUX := Lib.hid (fun W => rUsesX_any x.op hk W)
  have HUY := Lib.hid (fun W => rUsesY_any x.op hk W)
  rw [hux] at HUX
  rw [huy] at HUY
  replace HX := Lib.hid HX
  have HC2 := Lib.hid hc2
  have HXX := Lib.hid hx
  have HP := Lib.hid (fun W (h : RW W base bw bd n s1) => rPut_any { x with x := (k1 : Int) } base bw bd n s1 W h (Nat.le_trans (HC2.out.le h.len) hn))
  generalize putNd s1.out { x with x := (k1 : Int) } = p at *
  clear hS hd hR hx hk hux huy hc2
  go_enter Tryd.func139, Tryd.ntmps139
  go_wp2_with fail
  refine (HUX.out _).mono ?_
  rintro e w1 ⟨rfl, rfl⟩
  have HQ0 := Lib.hid (RQ.start HS.out HRR.out hB4 x 62)
  clear hc h3 m0 m1 m2 m3 m4 m5 l1 l2 l3 l4 l5
  generalize w.alloc (.cells #[.int .i64 x.op, .int .i64 x.i, .int .i64 x.e, .int .i64 x.g, .int .i64 x.x, .int .i64 x.y] 62) = w0 at *
  obtain ⟨hlx, hly⟩ := HQ0.out.rd.nd_xy hi HXX.out
  go_wp2_with fail
  refine (HX.out _ HQ0.out.st HQ0.out.rd).mono ?_
  rintro e w1 ⟨rfl, hS1, hF1⟩
  have HQ1 := Lib.hid (HQ0.out.step hS1 hF1 hB1 hB2 hB3)
  clear hlx hly hS1 hF1
  obtain ⟨b0, b1, b2, b3, b4, b5, bf⟩ := HQ1.out.bx
  have bf4 := bf 4
  clear bf
  go_wp2_with fail
  refine (HUY.out _).mono ?_
  rintro e w2 ⟨rfl, rfl⟩
  have HQ2 := Lib.hid (HQ1.out.set (HQ1.out.bx.setX (k1 : Int)) hB3)
  clear b0 b1 b2 b3 b4 b5 bf4
  generalize w1.setCell ⟨w.heap.size, 4, none⟩ (.int .i64 (k1 : Int)) = w2 at *
  go_wp2_with fail
  obtain ⟨b0, b1, b2, b3, b4, b5, bf⟩ := HQ2.out.bx
  obtain ⟨c4, hd4⟩ := HQ2.out.st.dn
  have hc4 := HQ2.out.st.cells i hi
  have hf4 := HQ2.out.st.free i hi
  have HS4 := Lib.hid (HQ2.out.st.drewN 1)
  have HF4 := Lib.hid (HQ2.out.fr.drewN 1)
  have hne := HQ2.out.st.ne
  have hne2 := hne.symm
  clear bf
  go_region_with (go_at_call 155; refine (HP.out _ HS4.out).mono ?_; rintro e w5 ⟨rfl, hS5, hF5⟩; have HS5 := Lib.hid hS5; have HF5 := Lib.hid (HF4.out.trans hF5); clear hS5 hF5; obtain ⟨c5, hd5⟩ := HS5.out.dn; have hc5 := HS5.out.cells i hi; have hf5 := HS5.out.free i hi)
  all_goals clear b0 b1 b2 b3 b4 b5 hd4 hc4 hf4
  all_goals go_wp2
  all_goals go_ret
  all_goals exact ⟨rfl, HS5.out.set hi p.1, HF5.out.setD _ hne⟩
set_option maxRecDepth 100000 in
set_option maxHeartbeats 4000000 in
theorem rFin_tt (f : List Nd) (A : Option Addr) (n c B base bw bd i : Nat) (s s1 s2 : Wk) (k1 k2 : Nat) (x : Nd) (w : World) (hn : n ≤ 1000) (hi : i < n) (hS : RW w base bw bd n s) (hd : s.done.getD i none = none) (hR : Reads w B 6 A n (nds f))
    (hB1 : B ≤ bw) (hB2 : B ≤ bd) (hB3 : B ≤ base) (hx : f.getD i nd0 = x) (hk : known x.op = true) (hux : usesX x.op = true) (huy : usesY x.op = true) (hc2 : Cnt s2)
    (HX : ∀ W, RW W base bw bd n s → Reads W B 6 A n (nds f) → Calls Tryd.prog 139 #[.slice A n c, .int .i64 x.x, .pointer (some ⟨bw, 0, none⟩)] W fun e W' => e = .returned (.int .i64 (k1 : Int)) ∧ RW W' base bw bd n s1 ∧ Fr bw bd W W')
    (HY : ∀ W, RW W base bw bd n s1 → Reads W B 6 A n (nds f) → Calls Tryd.prog 139 #[.slice A n c, .int .i64 x.y, .pointer (some ⟨bw, 0, none⟩)] W fun e W' => e = .returned (.int .i64 (k2 : Int)) ∧ RW W' base bw bd n s2 ∧ Fr bw bd W W') :
    Calls Tryd.prog 139 #[.slice A n c, .int .i64 i, .pointer (some ⟨bw, 0, none⟩)] w fun e w' =>
      e = .returned (.int .i64 ((putNd s2.out { x with x := (k1 : Int), y := (k2 : Int) }).1 : Nat)) ∧
      RW w' base bw bd n ⟨(putNd s2.out { x with x := (k1 : Int), y := (k2 : Int) }).2, s2.done.set i (some (putNd s2.out { x with x := (k1 : Int), y := (k2 : Int) }).1)⟩ ∧ Fr bw bd w w' := by
  obtain ⟨c2, h3⟩ := hS.dn
  have hc := hS.cells i hi
  rw [hd] at hc
  replace hc : w.cell? ⟨bd, i, none⟩ = some (.int .i64 (-1)) := hc
  have hB4 : B ≤ w.heap.size := Nat.le_trans hB3 hS.lb
  obtain ⟨ad, rfl, hb, m0, m1, m2, m3, m4, m5⟩ := hR.nd_at hi
  rw [hx] at m0 m1 m2 m3 m4 m5
  have l1 := add_cell m1
  have l2 := add_cell m2
  have l3 := add_cell m3
  have l4 := add_cell m4
  have l5 := add_cell m5
  have HS := Lib.hid hS
  have HRR := Lib.hid hR
  have HUX := Lib.hid (fun W => rUsesX_any x.op hk W)
  have HUY := Lib.hid (fun W => rUsesY_any x.op hk W)
  rw [hux] at HUX
  rw [huy] at HUY
  replace HX := Lib.hid HX
  replace HY := Lib.hid HY
  have HC2 := Lib.hid hc2
  have HXX := Lib.hid hx
  have HP := Lib.hid (fun W (h : RW W base bw bd n s2) => rPut_any { x with x := (k1 : Int), y := (k2 : Int) } base bw bd n s2 W h (Nat.le_trans (HC2.out.le h.len) hn))
  generalize putNd s2.out { x with x := (k1 : Int), y := (k2 : Int) } = p at *
  clear hS hd hR hx hk hux huy hc2
  go_enter Tryd.func139, Tryd.ntmps139
  go_wp2_with fail
  refine (HUX.out _).mono ?_
  rintro e w1 ⟨rfl, rfl⟩
  have HQ0 := Lib.hid (RQ.start HS.out HRR.out hB4 x 62)
  clear hc h3 m0 m1 m2 m3 m4 m5 l1 l2 l3 l4 l5
  generalize w.alloc (.cells #[.int .i64 x.op, .int .i64 x.i, .int .i64 x.e, .int .i64 x.g, .int .i64 x.x, .int .i64 x.y] 62) = w0 at *
  obtain ⟨hlx, hly⟩ := HQ0.out.rd.nd_xy hi HXX.out
  go_wp2_with fail
  refine (HX.out _ HQ0.out.st HQ0.out.rd).mono ?_
  rintro e w1 ⟨rfl, hS1, hF1⟩
  have HQ1 := Lib.hid (HQ0.out.step hS1 hF1 hB1 hB2 hB3)
  clear hlx hly hS1 hF1
  obtain ⟨b0, b1, b2, b3, b4, b5, bf⟩ := HQ1.out.bx
  have bf4 := bf 4
  clear bf
  go_wp2_with fail
  refine (HUY.out _).mono ?_
  rintro e w2 ⟨rfl, rfl⟩
  have HQ2 := Lib.hid (HQ1.out.set (HQ1.out.bx.setX (k1 : Int)) hB3)
  clear b0 b1 b2 b3 b4 b5 bf4
  generalize w1.setCell ⟨w.heap.size, 4, none⟩ (.int .i64 (k1 : Int)) = w2 at *
  obtain ⟨hlx, hly⟩ := HQ2.out.rd.nd_xy hi HXX.out
  go_wp2_with fail
  refine (HY.out _ HQ2.out.st HQ2.out.rd).mono ?_
  rintro e w3 ⟨rfl, hS1, hF1⟩
  have HQ3 := Lib.hid (HQ2.out.step hS1 hF1 hB1 hB2 hB3)
  clear hlx hly hS1 hF1
  obtain ⟨b0, b1, b2, b3, b4, b5, bf⟩ := HQ3.out.bx
  have bf5 := bf 5
  clear bf
  go_wp2_with fail
  have HQ4 := Lib.hid (HQ3.out.set (HQ3.out.bx.setY (k2 : Int)) hB3)
  clear b0 b1 b2 b3 b4 b5 bf5
  generalize w3.setCell ⟨w.heap.size, 5, none⟩ (.int .i64 (k2 : Int)) = w4 at *
  obtain ⟨b0, b1, b2, b3, b4, b5, bf⟩ := HQ4.out.bx
  obtain ⟨c4, hd4⟩ := HQ4.out.st.dn
  have hc4 := HQ4.out.st.cells i hi
  have hf4 := HQ4.out.st.free i hi
  have HS4 := Lib.hid (HQ4.out.st.drewN 1)
  have HF4 := Lib.hid (HQ4.out.fr.drewN 1)
  have hne := HQ4.out.st.ne
  have hne2 := hne.symm
  clear bf
  go_region_with (go_at_call 155; refine (HP.out _ HS4.out).mono ?_; rintro e w5 ⟨rfl, hS5, hF5⟩; have HS5 := Lib.hid hS5; have HF5 := Lib.hid (HF4.out.trans hF5); clear hS5 hF5; obtain ⟨c5, hd5⟩ := HS5.out.dn; have hc5 := HS5.out.cells i hi; have hf5 := HS5.out.free i hi)
  all_goals clear b0 b1 b2 b3 b4 b5 hd4 hc4 hf4
  all_goals go_wp2
  all_goals go_ret
  all_goals exact ⟨rfl, HS5.out.set hi p.1, HF5.out.setD _ hne⟩
theorem rFinish_any (f : List Nd) (hf : opsL f) (hkn : knownL f) (A : Option Addr) (n c B base bw bd : Nat) (hn : n ≤ 1000) (hl : f.length = n) (hB1 : B ≤ bw) (hB2 : B ≤ bd) (hB3 : B ≤ base) :
    ∀ (fuel i : Nat) (s : Wk) (w : World), i < fuel → i < n → Cnt s → RW w base bw bd n s → Reads w B 6 A n (nds f) →
      Calls Tryd.prog 139 #[.slice A n c, .int .i64 (i : Int), .pointer (some ⟨bw, 0, none⟩)] w fun e w' =>
        e = .returned (.int .i64 ((finW f fuel i s).1 : Nat)) ∧ RW w' base bw bd n (finW f fuel i s).2 ∧ Fr bw bd w w' := by
  intro fuel
  induction fuel with
  | zero => intro i s w h; omega
  | succ fuel ih =>
    intro i s w h hi hc hS hR
    have hsl : s.done.length = f.length := by rw [hS.len, hl]
    cases hd : s.done.getD i none with
    | some k =>
      have e0 : finW f (fuel + 1) i s = (k, s) := by unfold finW; rw [hd]
      rw [e0]
      refine (rFin_old A n c base bw bd i k s w hi hS hd).mono ?_
      rintro e w' ⟨rfl, rfl⟩
      exact ⟨rfl, hS, Fr.of_below (Below.refl _ _) (Nat.lt_of_lt_of_le hS.lw hS.lb)⟩
    | none =>
      have ho := hf i (by omega)
      have hk := hkn i (by omega)
      cases hux : usesX (f.getD i nd0).op with
      | false =>
        have huy : usesY (f.getD i nd0).op = false := by
          cases hq : usesY (f.getD i nd0).op
          · rfl
          · rw [usesY_X hq] at hux; cases hux
        have e1 : (f.getD i nd0).x = 0 := by have := ho.1; rw [if_neg (by rw [hux]; decide)] at this; exact this
        have e2 : (f.getD i nd0).y = 0 := by have := ho.2; rw [if_neg (by rw [huy]; decide)] at this; exact this
        have e3 : ({ f.getD i nd0 with x := (((f.getD i nd0).x.toNat : Nat) : Int), y := (((f.getD i nd0).y.toNat : Nat) : Int) } : Nd) = f.getD i nd0 := by
          rw [e1, e2]; cases hq : f.getD i nd0; rw [hq] at e1 e2; simp at e1 e2; simp [e1, e2]
        have e0 : finW f (fuel + 1) i s = ((putNd s.out (f.getD i nd0)).1, ⟨(putNd s.out (f.getD i nd0)).2, s.done.set i (some (putNd s.out (f.getD i nd0)).1)⟩) := by
          unfold finW; rw [hd]; simp only [hux, huy, Bool.false_eq_true, if_false]; rw [e3]
        rw [e0]
        exact rFin_ff f A n c B base bw bd i s _ w hn hi hS hd hR hB3 rfl hk hux huy hc
      | true =>
        have ox := opsOk_x ho hux
        obtain ⟨a1, a2, _⟩ := finW_cnt hf fuel (f.getD i nd0).x.toNat s (by omega) (by omega) hsl hc
        have HX : ∀ W, RW W base bw bd n s → Reads W B 6 A n (nds f) → Calls Tryd.prog 139 #[.slice A n c, .int .i64 (f.getD i nd0).x, .pointer (some ⟨bw, 0, none⟩)] W fun e W' => e = .returned (.int .i64 ((finW f fuel (f.getD i nd0).x.toNat s).1 : Int)) ∧ RW W' base bw bd n (finW f fuel (f.getD i nd0).x.toNat s).2 ∧ Fr bw bd W W' := fun W h1 h2 => by
          have := ih (f.getD i nd0).x.toNat s W (by omega) (by omega) hc h1 h2
          rw [Int.toNat_of_nonneg ox.1] at this
          exact this
        cases huy : usesY (f.getD i nd0).op with
        | false =>
          have e2 : (f.getD i nd0).y = 0 := by have := ho.2; rw [if_neg (by rw [huy]; decide)] at this; exact this
          have e0 : finW f (fuel + 1) i s = ((putNd (finW f fuel (f.getD i nd0).x.toNat s).2.out { f.getD i nd0 with x := ((finW f fuel (f.getD i nd0).x.toNat s).1 : Int) }).1, ⟨(putNd (finW f fuel (f.getD i nd0).x.toNat s).2.out { f.getD i nd0 with x := ((finW f fuel (f.getD i nd0).x.toNat s).1 : Int) }).2, (finW f fuel (f.getD i nd0).x.toNat s).2.done.set i (some (putNd (finW f fuel (f.getD i nd0).x.toNat s).2.out { f.getD i nd0 with x := ((finW f fuel (f.getD i nd0).x.toNat s).1 : Int) }).1)⟩) := by
            rw [finW, hd]; simp only [hux, huy, Bool.false_eq_true, if_false, if_true]
            rw [show (((f.getD i nd0).y.toNat : Nat) : Int) = (f.getD i nd0).y from by rw [e2]; rfl]
          rw [e0]
          exact rFin_tf f A n c B base bw bd i s _ _ _ w hn hi hS hd hR hB1 hB2 hB3 rfl hk hux huy a1 HX
        | true =>
          have oy := opsOk_y ho huy
          have e0 : finW f (fuel + 1) i s = ((putNd (finW f fuel (f.getD i nd0).y.toNat (finW f fuel (f.getD i nd0).x.toNat s).2).2.out { f.getD i nd0 with x := ((finW f fuel (f.getD i nd0).x.toNat s).1 : Int), y := ((finW f fuel (f.getD i nd0).y.toNat (finW f fuel (f.getD i nd0).x.toNat s).2).1 : Int) }).1, ⟨(putNd (finW f fuel (f.getD i nd0).y.toNat (finW f fuel (f.getD i nd0).x.toNat s).2).2.out { f.getD i nd0 with x := ((finW f fuel (f.getD i nd0).x.toNat s).1 : Int), y := ((finW f fuel (f.getD i nd0).y.toNat (finW f fuel (f.getD i nd0).x.toNat s).2).1 : Int) }).2, (finW f fuel (f.getD i nd0).y.toNat (finW f fuel (f.getD i nd0).x.toNat s).2).2.done.set i (some (putNd (finW f fuel (f.getD i nd0).y.toNat (finW f fuel (f.getD i nd0).x.toNat s).2).2.out { f.getD i nd0 with x := ((finW f fuel (f.getD i nd0).x.toNat s).1 : Int), y := ((finW f fuel (f.getD i nd0).y.toNat (finW f fuel (f.getD i nd0).x.toNat s).2).1 : Int) }).1)⟩) := by
            rw [finW, hd]; simp only [hux, huy, if_true]
          rw [e0]
          generalize finW f fuel (f.getD i nd0).x.toNat s = r1 at *
          obtain ⟨b1, b2, _⟩ := finW_cnt hf fuel (f.getD i nd0).y.toNat r1.2 (by omega) (by omega) a2 a1
          exact rFin_tt f A n c B base bw bd i s r1.2 _ r1.1 _ _ w hn hi hS hd hR hB1 hB2 hB3 rfl hk hux huy b1 HX (fun W h1 h2 => by
            have := ih (f.getD i nd0).y.toNat r1.2 W (by omega) (by omega) a1 h1 h2
            rw [Int.toNat_of_nonneg oy.1] at this
            exact this)
end Go.Proofs.YtkkkomkljpolbaaDoor
