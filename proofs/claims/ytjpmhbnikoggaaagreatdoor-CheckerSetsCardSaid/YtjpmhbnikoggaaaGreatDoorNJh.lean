/- Layer 6: texts joined: Kq Kw. -/
import Derived.Test.YtjpmhbnikoggaaaGreatDoorNJf
/- Layer 5: the reference's finish. -/
namespace Go.Proofs.YtjpmhbnikoggaaaGreatDoor
open Go.RowKit Go.Proofs.Ws
set_option maxRecDepth 100000 in
set_option maxHeartbeats 4000000 in
theorem rFin_old (A : Option Addr) (n c base bw bd i k : Nat) (s : Wk) (w : World) (hi : i < n) (hS : RW w base bw bd n s) (hd : s.done.getD i none = some k) :
    Calls Tryz.prog 147 #[.slice A n c, .int .i64 i, .pointer (some ⟨bw, 0, none⟩)] w fun e w' => e = .returned (.int .i64 (k : Int)) ∧ w = w' := by
  obtain ⟨c2, h3⟩ := hS.dn
  have hc := hS.cells i hi
  rw [hd] at hc
  replace hc : w.cell? ⟨bd, i, none⟩ = some (.int .i64 (k : Int)) := hc
  have hk : decide ((k : Int) ≥ 0) = true := by simp
  clear hS hd
  go_enter Tryz.func147, Tryz.ntmps147
  go_wp2
  go_ret
  exact ⟨rfl, rfl⟩
set_option maxRecDepth 100000 in
set_option maxHeartbeats 4000000 in
theorem rFin_ff (f : List Nd) (A : Option Addr) (n c B base bw bd i : Nat) (s : Wk) (x : Nd) (w : World) (hn : n ≤ 1000) (hi : i < n) (hS : RW w base bw bd n s) (hd : s.done.getD i none = none) (hR : Reads w B 6 A n (nds f))
    (hB3 : B ≤ base) (hx : f.getD i nd0 = x) (hk : known x.op = true) (hux : usesX x.op = false) (huy : usesY x.op = false) (hc2 : Cnt s) :
    Calls Tryz.prog 147 #[.slice A n c, .int .i64 i, .pointer (some ⟨bw, 0, none⟩)] w fun e w' =>
      e = .returned (.int .i64 ((putNd s.out x).1 : Nat)) ∧
      RW w' base bw bd n ⟨(putNd s.out x).2, s.done.set i (some (putNd s.out x).1)⟩ ∧ Fr bw bd w w' := by
  obtain ⟨c2, h3⟩ := hS.dn
  have hc := hS.cells i hi
  rw [hd] at hc
  replace hc : w.cell? ⟨bd, i, none⟩ = some (.int .i64 (-1)) := hc
  have hB4 : B ≤ w.heap.size := Nat.le_trans hB3 hS.lb
  obtain ⟨ad, rfl, hb, m0, m1, m2, m3, m4, m5⟩ := hR.nd_at hi
  rw [hx] at m0 m1 m2 m3 m4 m5
  have l1 := add_cell m1
  have l2 := add_cell m2
  have l3 := add_cell m3
  have l4 := add_cell m4
  have l5 := add_cell m5
  have HS := Lib.hid hS
  have HRR := Lib.hid hR
  have HUX := Lib.hid (fun W => rUsesX_any x.op hk W)
  have HUY := Lib.hid (fun W => rUsesY_any x.op hk W)
  rw [hux] at HUX
  rw [huy] at HUY
  have HC2 := Lib.hid hc2
  have HXX := Lib.hid hx
  have HP := Lib.hid (fun W (h : RW W base bw bd n s) => rPut_any x base bw bd n s W h (Nat.le_trans (HC2.out.le h.len) hn))
  generalize putNd s.out x = p at *
  clear hS hd hR hx hk hux huy hc2
  go_enter Tryz.func147, Tryz.ntmps147
  go_wp2_with fail
  refine (HUX.out _).mono ?_
  rintro e w1 ⟨rfl, rfl⟩
  have HQ0 := Lib.hid (RQ.start HS.out HRR.out hB4 x 79)
  clear hc h3 m0 m1 m2 m3 m4 m5 l1 l2 l3 l4 l5
  generalize w.alloc (.cells #[.int .i64 x.op, .int .i64 x.i, .int .i64 x.e, .int .i64 x.g, .int .i64 x.x, .int .i64 x.y] 79) = w0 at *
  obtain ⟨b0, b1, b2, b3, b4, b5, bf⟩ := HQ0.out.bx
  clear bf
  go_wp2_with fail
  refine (HUY.out _).mono ?_
  rintro e w2 ⟨rfl, rfl⟩
  clear b0 b1 b2 b3 b4 b5
  go_wp2_with fail
  obtain ⟨b0, b1, b2, b3, b4, b5, bf⟩ := HQ0.out.bx
  obtain ⟨c4, hd4⟩ := HQ0.out.st.dn
  have hc4 := HQ0.out.st.cells i hi
  have hf4 := HQ0.out.st.free i hi
  have HS4 := Lib.hid (HQ0.out.st.drewN 1)
  have HF4 := Lib.hid (HQ0.out.fr.drewN 1)
  have hne := HQ0.out.st.ne
  have hne2 := hne.symm
  clear bf
  go_region_with (go_at_call 179; refine (HP.out _ HS4.out).mono ?_; rintro e w5 ⟨rfl, hS5, hF5⟩; have HS5 := Lib.hid hS5; have HF5 := Lib.hid (HF4.out.trans hF5); clear hS5 hF5; obtain ⟨c5, hd5⟩ := HS5.out.dn; have hc5 := HS5.out.cells i hi; have hf5 := HS5.out.free i hi)
  all_goals clear b0 b1 b2 b3 b4 b5 hd4 hc4 hf4
  all_goals go_wp2
  all_goals go_ret
  all_goals exact ⟨rfl, HS5.out.set hi p.1, HF5.out.setD _ hne⟩
set_option maxRecDepth 100000 in
set_option maxHeartbeats 4000000 in
theorem rFin_tf (f : List Nd) (A : Option Addr) (n c B base bw bd i : Nat) (s s1 : Wk) (k1 : Nat) (x : Nd) (w : World) (hn : n ≤ 1000) (hi : i < n) (hS : RW w base bw bd n s) (hd : s.done.getD i none = none) (hR : Reads w B 6 A n (nds f))
    (hB1 : B ≤ bw) (hB2 : B ≤ bd) (hB3 : B ≤ base) (hx : f.getD i nd0 = x) (hk : known x.op = true) (hux : usesX x.op = true) (huy : usesY x.op = false) (hc2 : Cnt s1)
    (HX : ∀ W, RW W base bw bd n s → Reads W B 6 A n (nds f) → Calls Tryz.prog 147 #[.slice A n c, .int .i64 x.x, .pointer (some ⟨bw, 0, none⟩)] W fun e W' => e = .returned (.int .i64 (k1 : Int)) ∧ RW W' base bw bd n s1 ∧ Fr bw bd W W') :
    Calls Tryz.prog 147 #[.slice A n c, .int .i64 i, .pointer (some ⟨bw, 0, none⟩)] w fun e w' =>
      e = .returned (.int .i64 ((putNd s1.out { x with x := (k1 : Int) }).1 : Nat)) ∧
      RW w' base bw bd n ⟨(putNd s1.out { x with x := (k1 : Int) }).2, s1.done.set i (some (putNd s1.out { x with x := (k1 : Int) }).1)⟩ ∧ Fr bw bd w w' := by
  obtain ⟨c2, h3⟩ := hS.dn
  have hc := hS.cells i hi
  rw [hd] at hc
  replace hc : w.cell? ⟨bd, i, none⟩ = some (.int .i64 (-1)) := hc
  have hB4 : B ≤ w.heap.size := Nat.le_trans hB3 hS.lb
  obtain ⟨ad, rfl, hb, m0, m1, m2, m3, m4, m5⟩ := hR.nd_at hi
  rw [hx] at m0 m1 m2 m3 m4 m5
  have l1 := add_cell m1
  have l2 := add_cell m2
  have l3 := add_cell m3
  have l4 := add_cell m4
  have l5 := add_cell m5
  have HS := Lib.hid hS
  have HRR := Lib.hid hR
  have HUX := Lib.hid (fun W => rUsesX_any x.op hk W)
  have HUY := Lib.hid (fun W => rUsesY_any x.op hk W)
  rw [hux] at HUX
  rw [huy] at HUY
  replace HX := Lib.hid HX
  have HC2 := Lib.hid hc2
  have HXX := Lib.hid hx
  have HP := Lib.hid (fun W (h : RW W base bw bd n s1) => rPut_any { x with x := (k1 : Int) } base bw bd n s1 W h (Nat.le_trans (HC2.out.le h.len) hn))
  generalize putNd s1.out { x with x := (k1 : Int) } = p at *
  clear hS hd hR hx hk hux huy hc2
  go_enter Tryz.func147, Tryz.ntmps147
  go_wp2_with fail
  refine (HUX.out _).mono ?_
  rintro e w1 ⟨rfl, rfl⟩
  have HQ0 := Lib.hid (RQ.start HS.out HRR.out hB4 x 79)
  clear hc h3 m0 m1 m2 m3 m4 m5 l1 l2 l3 l4 l5
  generalize w.alloc (.cells #[.int .i64 x.op, .int .i64 x.i, .int .i64 x.e, .int .i64 x.g, .int .i64 x.x, .int .i64 x.y] 79) = w0 at *
  obtain ⟨hlx, hly⟩ := HQ0.out.rd.nd_xy hi HXX.out
  go_wp2_with fail
  refine (HX.out _ HQ0.out.st HQ0.out.rd).mono ?_
  rintro e w1 ⟨rfl, hS1, hF1⟩
  have HQ1 := Lib.hid (HQ0.out.step hS1 hF1 hB1 hB2 hB3)
  clear hlx hly hS1 hF1
  obtain ⟨b0, b1, b2, b3, b4, b5, bf⟩ := HQ1.out.bx
  have bf4 := bf 4
  clear bf
  go_wp2_with fail
  refine (HUY.out _).mono ?_
  rintro e w2 ⟨rfl, rfl⟩
  have HQ2 := Lib.hid (HQ1.out.set (HQ1.out.bx.setX (k1 : Int)) hB3)
  clear b0 b1 b2 b3 b4 b5 bf4
  generalize w1.setCell ⟨w.heap.size, 4, none⟩ (.int .i64 (k1 : Int)) = w2 at *
  go_wp2_with fail
  obtain ⟨b0, b1, b2, b3, b4, b5, bf⟩ := HQ2.out.bx
  obtain ⟨c4, hd4⟩ := HQ2.out.st.dn
  have hc4 := HQ2.out.st.cells i hi
  have hf4 := HQ2.out.st.free i hi
  have HS4 := Lib.hid (HQ2.out.st.drewN 1)
  have HF4 := Lib.hid (HQ2.out.fr.drewN 1)
  have hne := HQ2.out.st.ne
  have hne2 := hne.symm
  clear bf
  go_region_with (go_at_call 179; refine (HP.out _ HS4.out).mono ?_; rintro e w5 ⟨rfl, hS5, hF5⟩; have HS5 := Lib.hid hS5; have HF5 := Lib.hid (HF4.out.trans hF5); clear hS5 hF5; obtain ⟨c5, hd5⟩ := HS5.out.dn; have hc5 := HS5.out.cells i hi; have hf5 := HS5.out.free i hi)
  all_goals clear b0 b1 b2 b3 b4 b5 hd4 hc4 hf4
  all_goals go_wp2
  all_goals go_ret
  all_goals exact ⟨rfl, HS5.out.set hi p.1, HF5.out.setD _ hne⟩
set_option maxRecDepth 100000 in
set_option maxHeartbeats 4000000 in
theorem rFin_tt (f : List Nd) (A : Option Addr) (n c B base bw bd i : Nat) (s s1 s2 : Wk) (k1 k2 : Nat) (x : Nd) (w : World) (hn : n ≤ 1000) (hi : i < n) (hS : RW w base bw bd n s) (hd : s.done.getD i none = none) (hR : Reads w B 6 A n (nds f))
    (hB1 : B ≤ bw) (hB2 : B ≤ bd) (hB3 : B ≤ base) (hx : f.getD i nd0 = x) (hk : known x.op = true) (hux : usesX x.op = true) (huy : usesY x.op = true) (hc2 : Cnt s2)
    (HX : ∀ W, RW W base bw bd n s → Reads W B 6 A n (nds f) → Calls Tryz.prog 147 #[.slice A n c, .int .i64 x.x, .pointer (some ⟨bw, 0, none⟩)] W fun e W' => e = .returned (.int .i64 (k1 : Int)) ∧ RW W' base bw bd n s1 ∧ Fr bw bd W W')
    (HY : ∀ W, RW W base bw bd n s1 → Reads W B 6 A n (nds f) → Calls Tryz.prog 147 #[.slice A n c, .int .i64 x.y, .pointer (some ⟨bw, 0, none⟩)] W fun e W' => e = .returned (.int .i64 (k2 : Int)) ∧ RW W' base bw bd n s2 ∧ Fr bw bd W W') :
    Calls Tryz.prog 147 #[.slice A n c, .int .i64 i, .pointer (some ⟨bw, 0, none⟩)] w fun e w' =>
      e = .returned (.int .i64 ((putNd s2.out { x with x := (k1 : Int), y := (k2 : Int) }).1 : Nat)) ∧
      RW w' base bw bd n ⟨(putNd s2.out { x with x := (k1 : Int), y := (k2 : Int) }).2, s2.done.set i (some (putNd s2.out { x with x := (k1 : Int), y := (k2 : Int) }).1)⟩ ∧ Fr bw bd w w' := by
  obtain ⟨c2, h3⟩ := hS.dn
  have hc := hS.cells i hi
  rw [hd] at hc
  replace hc : w.cell? ⟨bd, i, none⟩ = some (.int .i64 (-1)) := hc
  have hB4 : B ≤ w.heap.size := Nat.le_trans hB3 hS.lb
  obtain ⟨ad, rfl, hb, m0, m1, m2, m3, m4, m5⟩ := hR.nd_at hi
  rw [hx] at m0 m1 m2 m3 m4 m5
  have l1 := add_cell m1
  have l2 := add_cell m2
  have l3 := add_cell m3
  have l4 := add_cell m4
  have l5 := add_cell m5
  have HS := Lib.hid hS
  have HRR := Lib.hid hR
  have HUX := Lib.hid (fun W => rUsesX_any x.op hk W)
  have HUY := Lib.hid (fun W => rUsesY_any x.op hk W)
  rw [hux] at HUX
  rw [huy] at HUY
  replace HX := Lib.hid HX
  replace HY := Lib.hid HY
  have HC2 := Lib.hid hc2
  have HXX := Lib.hid hx
  have HP := Lib.hid (fun W (h : RW W base bw bd n s2) => rPut_any { x with x := (k1 : Int), y := (k2 : Int) } base bw bd n s2 W h (Nat.le_trans (HC2.out.le h.len) hn))
  generalize putNd s2.out { x with x := (k1 : Int), y := (k2 : Int) } = p at *
  clear hS hd hR hx hk hux huy hc2
  go_enter Tryz.func147, Tryz.ntmps147
  go_wp2_with fail
  refine (HUX.out _).mono ?_
  rintro e w1 ⟨rfl, rfl⟩
  have HQ0 := Lib.hid (RQ.start HS.out HRR.out hB4 x 79)
  clear hc h3 m0 m1 m2 m3 m4 m5 l1 l2 l3 l4 l5
  generalize w.alloc (.cells #[.int .i64 x.op, .int .i64 x.i, .int .i64 x.e, .int .i64 x.g, .int .i64 x.x, .int .i64 x.y] 79) = w0 at *
  obtain ⟨hlx, hly⟩ := HQ0.out.rd.nd_xy hi HXX.out
  go_wp2_with fail
  refine (HX.out _ HQ0.out.st HQ0.out.rd).mono ?_
  rintro e w1 ⟨rfl, hS1, hF1⟩
  have HQ1 := Lib.hid (HQ0.out.step hS1 hF1 hB1 hB2 hB3)
  clear hlx hly hS1 hF1
  obtain ⟨b0, b1, b2, b3, b4, b5, bf⟩ := HQ1.out.bx
  have bf4 := bf 4
  clear bf
  go_wp2_with fail
  refine (HUY.out _).mono ?_
  rintro e w2 ⟨rfl, rfl⟩
  have HQ2 := Lib.hid (HQ1.out.set (HQ1.out.bx.setX (k1 : Int)) hB3)
  clear b0 b1 b2 b3 b4 b5 bf4
  generalize w1.setCell ⟨w.heap.size, 4, none⟩ (.int .i64 (k1 : Int)) = w2 at *
  obtain ⟨hlx, hly⟩ := HQ2.out.rd.nd_xy hi HXX.out
  go_wp2_with fail
  refine (HY.out _ HQ2.out.st HQ2.out.rd).mono ?_
  rintro e w3 ⟨rfl, hS1, hF1⟩
  have HQ3 := Lib.hid (HQ2.out.step hS1 hF1 hB1 hB2 hB3)
  clear hlx hly hS1 hF1
  obtain ⟨b0, b1, b2, b3, b4, b5, bf⟩ := HQ3.out.bx
  have bf5 := bf 5
  clear bf
  go_wp2_with fail
  have HQ4 := Lib.hid (HQ3.out.set (HQ3.out.bx.setY (k2 : Int)) hB3)
  clear b0 b1 b2 b3 b4 b5 bf5
  generalize w3.setCell ⟨w.heap.size, 5, none⟩ (.int .i64 (k2 : Int)) = w4 at *
  obtain ⟨b0, b1, b2, b3, b4, b5, bf⟩ := HQ4.out.bx
  obtain ⟨c4, hd4⟩ := HQ4.out.st.dn
  have hc4 := HQ4.out.st.cells i hi
  have hf4 := HQ4.out.st.free i hi
  have HS4 := Lib.hid (HQ4.out.st.drewN 1)
  have HF4 := Lib.hid (HQ4.out.fr.drewN 1)
  have hne := HQ4.out.st.ne
  have hne2 := hne.symm
  clear bf
  go_region_with (go_at_call 179; refine (HP.out _ HS4.out).mono ?_; rintro e w5 ⟨rfl, hS5, hF5⟩; have HS5 := Lib.hid hS5; have HF5 := Lib.hid (HF4.out.trans hF5); clear hS5 hF5; obtain ⟨c5, hd5⟩ := HS5.out.dn; have hc5 := HS5.out.cells i hi; have hf5 := HS5.out.free i hi)
  all_goals clear b0 b1 b2 b3 b4 b5 hd4 hc4 hf4
  all_goals go_wp2
  all_goals go_ret
  all_goals exact ⟨rfl, HS5.out.set hi p.1, HF5.out.setD _ hne⟩
theorem rFinish_any (f : List Nd) (hf : opsL f) (hkn : knownL f) (A : Option Addr) (n c B base bw bd : Nat) (hn : n ≤ 1000) (hl : f.length = n) (hB1 : B ≤ bw) (hB2 : B ≤ bd) (hB3 : B ≤ base) :
    ∀ (fuel i : Nat) (s : Wk) (w : World), i < fuel → i < n → Cnt s → RW w base bw bd n s → Reads w B 6 A n (nds f) →
      Calls Tryz.prog 147 #[.slice A n c, .int .i64 (i : Int), .pointer (some ⟨bw, 0, none⟩)] w fun e w' =>
        e = .returned (.int .i64 ((finW f fuel i s).1 : Nat)) ∧ RW w' base bw bd n (finW f fuel i s).2 ∧ Fr bw bd w w' := by
  intro fuel
  induction fuel with
  | zero => intro i s w h; omega
  | succ fuel ih =>
    intro i s w h hi hc hS hR
    have hsl : s.done.length = f.length := by rw [hS.len, hl]
    cases hd : s.done.getD i none with
    | some k =>
      have e0 : finW f (fuel + 1) i s = (k, s) := by unfold finW; rw [hd]
      rw [e0]
      refine (rFin_old A n c base bw bd i k s w hi hS hd).mono ?_
      rintro e w' ⟨rfl, rfl⟩
      exact ⟨rfl, hS, Fr.of_below (Below.refl _ _) (Nat.lt_of_lt_of_le hS.lw hS.lb)⟩
    | none =>
      have ho := hf i (by omega)
      have hk := hkn i (by omega)
      cases hux : usesX (f.getD i nd0).op with
      | false =>
        have huy : usesY (f.getD i nd0).op = false := by
          cases hq : usesY (f.getD i nd0).op
          · rfl
          · rw [usesY_X hq] at hux; cases hux
        have e1 : (f.getD i nd0).x = 0 := by have := ho.1; rw [if_neg (by rw [hux]; decide)] at this; exact this
        have e2 : (f.getD i nd0).y = 0 := by have := ho.2; rw [if_neg (by rw [huy]; decide)] at this; exact this
        have e3 : ({ f.getD i nd0 with x := (((f.getD i nd0).x.toNat : Nat) : Int), y := (((f.getD i nd0).y.toNat : Nat) : Int) } : Nd) = f.getD i nd0 := by
          rw [e1, e2]; cases hq : f.getD i nd0; rw [hq] at e1 e2; simp at e1 e2; simp [e1, e2]
        have e0 : finW f (fuel + 1) i s = ((putNd s.out (f.getD i nd0)).1, ⟨(putNd s.out (f.getD i nd0)).2, s.done.set i (some (putNd s.out (f.getD i nd0)).1)⟩) := by
          unfold finW; rw [hd]; simp only [hux, huy, Bool.false_eq_true, if_false]; rw [e3]
        rw [e0]
        exact rFin_ff f A n c B base bw bd i s _ w hn hi hS hd hR hB3 rfl hk hux huy hc
      | true =>
        have ox := opsOk_x ho hux
        obtain ⟨a1, a2, _⟩ := finW_cnt hf fuel (f.getD i nd0).x.toNat s (by omega) (by omega) hsl hc
        have HX : ∀ W, RW W base bw bd n s → Reads W B 6 A n (nds f) → Calls Tryz.prog 147 #[.slice A n c, .int .i64 (f.getD i nd0).x, .pointer (some ⟨bw, 0, none⟩)] W fun e W' => e = .returned (.int .i64 ((finW f fuel (f.getD i nd0).x.toNat s).1 : Int)) ∧ RW W' base bw bd n (finW f fuel (f.getD i nd0).x.toNat s).2 ∧ Fr bw bd W W' := fun W h1 h2 => by
          have := ih (f.getD i nd0).x.toNat s W (by omega) (by omega) hc h1 h2
          rw [Int.toNat_of_nonneg ox.1] at this
          exact this
        cases huy : usesY (f.getD i nd0).op with
        | false =>
          have e2 : (f.getD i nd0).y = 0 := by have := ho.2; rw [if_neg (by rw [huy]; decide)] at this; exact this
          have e0 : finW f (fuel + 1) i s = ((putNd (finW f fuel (f.getD i nd0).x.toNat s).2.out { f.getD i nd0 with x := ((finW f fuel (f.getD i nd0).x.toNat s).1 : Int) }).1, ⟨(putNd (finW f fuel (f.getD i nd0).x.toNat s).2.out { f.getD i nd0 with x := ((finW f fuel (f.getD i nd0).x.toNat s).1 : Int) }).2, (finW f fuel (f.getD i nd0).x.toNat s).2.done.set i (some (putNd (finW f fuel (f.getD i nd0).x.toNat s).2.out { f.getD i nd0 with x := ((finW f fuel (f.getD i nd0).x.toNat s).1 : Int) }).1)⟩) := by
            rw [finW, hd]; simp only [hux, huy, Bool.false_eq_true, if_false, if_true]
            rw [show (((f.getD i nd0).y.toNat : Nat) : Int) = (f.getD i nd0).y from by rw [e2]; rfl]
          rw [e0]
          exact rFin_tf f A n c B base bw bd i s _ _ _ w hn hi hS hd hR hB1 hB2 hB3 rfl hk hux huy a1 HX
        | true =>
          have oy := opsOk_y ho huy
          have e0 : finW f (fuel + 1) i s = ((putNd (finW f fuel (f.getD i nd0).y.toNat (finW f fuel (f.getD i nd0).x.toNat s).2).2.out { f.getD i nd0 with x := ((finW f fuel (f.getD i nd0).x.toNat s).1 : Int), y := ((finW f fuel (f.getD i nd0).y.toNat (finW f fuel (f.getD i nd0).x.toNat s).2).1 : Int) }).1, ⟨(putNd (finW f fuel (f.getD i nd0).y.toNat (finW f fuel (f.getD i nd0).x.toNat s).2).2.out { f.getD i nd0 with x := ((finW f fuel (f.getD i nd0).x.toNat s).1 : Int), y := ((finW f fuel (f.getD i nd0).y.toNat (finW f fuel (f.getD i nd0).x.toNat s).2).1 : Int) }).2, (finW f fuel (f.getD i nd0).y.toNat (finW f fuel (f.getD i nd0).x.toNat s).2).2.done.set i (some (putNd (finW f fuel (f.getD i nd0).y.toNat (finW f fuel (f.getD i nd0).x.toNat s).2).2.out { f.getD i nd0 with x := ((finW f fuel (f.getD i nd0).x.toNat s).1 : Int), y := ((finW f fuel (f.getD i nd0).y.toNat (finW f fuel (f.getD i nd0).x.toNat s).2).1 : Int) }).1)⟩) := by
            rw [finW, hd]; simp only [hux, huy, if_true]
          rw [e0]
          generalize finW f fuel (f.getD i nd0).x.toNat s = r1 at *
          obtain ⟨b1, b2, _⟩ := finW_cnt hf fuel (f.getD i nd0).y.toNat r1.2 (by omega) (by omega) a2 a1
          exact rFin_tt f A n c B base bw bd i s r1.2 _ r1.1 _ _ w hn hi hS hd hR hB1 hB2 hB3 rfl hk hux huy b1 HX (fun W h1 h2 => by
            have := ih (f.getD i nd0).y.toNat r1.2 W (by omega) (by omega) a1 h1 h2
            rw [Int.toNat_of_nonneg oy.1] at this
            exact this)
end Go.Proofs.YtjpmhbnikoggaaaGreatDoor
/- Layer 5: what a checked list is, and the reference's Sub. -/
namespace Go.Proofs.Ws
open Go
theorem errFrom_all (l : List Nd) : ∀ (m k : Nat), l.length - k ≤ m → errFrom k (l.drop k) = 0 → ∀ j, k ≤ j → j < l.length → nodeErr (l.getD j nd0) (j : Int) = 0 := by
  intro m
  induction m with
  | zero => intro k h _ j h1 h2; omega
  | succ m ih =>
    intro k h he j h1 h2
    have hk : k < l.length := by omega
    rw [List.drop_eq_getElem_cons hk] at he
    have he2 : (if nodeErr l[k] (k : Int) ≠ 0 then nodeErr l[k] (k : Int) else errFrom (k + 1) (l.drop (k + 1))) = 0 := he
    have hg : l.getD k nd0 = l[k] := by simp [hk]
    by_cases hz : nodeErr l[k] (k : Int) = 0
    · rw [if_neg (by simpa using hz)] at he2
      by_cases e : j = k
      · subst e; rw [hg]; exact hz
      · exact ih (k + 1) (by omega) he2 j (by omega) h2
    · rw [if_pos hz] at he2; exact absurd he2 hz
theorem nodeErr_ok {n : Nd} {k : Int} (h : nodeErr n k = 0) : known n.op = true ∧ formOk n k = true ∧ rangeOk n = true := by
  unfold nodeErr at h
  cases h1 : known n.op
  · rw [h1] at h; simp at h
  · cases h2 : formOk n k
    · rw [h1, h2] at h; simp at h
    · cases h3 : rangeOk n
      · rw [h1, h2, h3] at h; simp at h
      · exact ⟨rfl, rfl, rfl⟩
theorem formOk_ops {n : Nd} {k : Nat} (h : formOk n (k : Int) = true) : opsOk n k := by
  unfold formOk at h
  simp only [Bool.and_eq_true] at h
  obtain ⟨⟨⟨⟨hx, hy⟩, _⟩, _⟩, _⟩ := h
  refine ⟨?_, ?_⟩
  · by_cases hu : usesX n.op = true
    · rw [if_pos hu] at hx ⊢
      simp only [Bool.and_eq_true, decide_eq_true_eq] at hx
      exact hx
    · rw [if_neg hu] at hx ⊢
      exact of_decide_eq_true hx
  · by_cases hu : usesY n.op = true
    · rw [if_pos hu] at hy ⊢
      simp only [Bool.and_eq_true, decide_eq_true_eq] at hy
      exact hy
    · rw [if_neg hu] at hy ⊢
      exact of_decide_eq_true hy
theorem fErr_ok {l : List Nd} (h : fErr l = 0) : l ≠ [] ∧ l.length ≤ 200 ∧ ∀ j, j < l.length → nodeErr (l.getD j nd0) (j : Int) = 0 := by
  unfold fErr at h
  split at h
  · cases h
  · split at h
    · cases h
    · rename_i h1 h2
      refine ⟨by intro e; rw [e] at h1; simp at h1, by omega, fun j hj => errFrom_all l l.length 0 (by omega) h j (Nat.zero_le _) hj⟩
theorem fErr_ops {l : List Nd} (h : fErr l = 0) : opsL l := fun i hi => formOk_ops (nodeErr_ok ((fErr_ok h).2.2 i hi)).2.1
/-- the canonical list of the formula at a node, or nothing -/
def subF (f : List Nd) (i : Int) : List Nd := if fErr f = 0 ∧ 0 ≤ i ∧ i < f.length then canonF (f.take (i.toNat + 1)) else []
theorem subF_last (f : List Nd) : subF f ((f.length : Int) - 1) = compF f := by
  unfold subF compF
  by_cases h : fErr f = 0
  · have hne : f.length ≠ 0 := by simpa using (fErr_ok h).1
    rw [if_pos ⟨h, by omega, by omega⟩, if_pos h, show ((f.length : Int) - 1).toNat + 1 = f.length from by omega, List.take_length]
  · rw [if_neg (fun e => h e.1), if_neg h]
theorem subF_tree {f : List Nd} {i : Nat} (h : fErr f = 0) (hi : i < f.length) : subF f i = canT (treeAt f i) := by
  unfold subF
  rw [if_pos ⟨h, by omega, by omega⟩, Int.toNat_natCast, canon_take (fErr_ops h) hi]
theorem walk_sub {f : List Nd} {i fuel : Nat} (h : fErr f = 0) (hi : i < f.length) (hf : i < fuel) : (finW f fuel i ⟨[], List.replicate f.length none⟩).2.out = subF f i := by
  rw [subF_tree h hi, walk_tree (fErr_ops h) hf hi]
end Go.Proofs.Ws
namespace Go.Proofs.YtjpmhbnikoggaaaGreatDoor
open Go.RowKit Go.Proofs.Ws
theorem own_baseR {w : World} {b b2 size n : Nat} {e : TypeId} {v : Value} {xs : List Value} (h : w.ownsRow b e size v n xs) (hb : b2 ≤ b) : w.ownsRow b2 e size v n xs := by
  refine ⟨h.1, ?_⟩
  rcases h.2 with hn | ⟨g, cap, cur, hv, h2, rest⟩
  · exact .inl hn
  · exact .inr ⟨g, cap, cur, hv, by omega, rest⟩
theorem fErr_known {l : List Nd} (h : fErr l = 0) : knownL l := fun i hi => (nodeErr_ok ((fErr_ok h).2.2 i hi)).1
theorem replicate_noneR (n j : Nat) : (List.replicate n (none : Option Nat)).getD j none = none := by
  rw [List.getD_eq_getElem?_getD, List.getElem?_replicate]
  split <;> rfl
theorem cnt0R (n : Nat) : Cnt ⟨[], List.replicate n none⟩ :=
  ⟨Nat.zero_le _, fun j k h => by rw [show (Wk.mk [] (List.replicate n none)).done = List.replicate n none from rfl, replicate_noneR] at h; cases h⟩
theorem Tryz.infoIR : (Tryz.prog.info? 3).map (fun i => (i.zero, i.size, i.bytes)) = some (some (.int .i64 0), 1, 8) := by kernel_rfl
/-- the walk of the reference, while its numbers are laid -/
structure LD (w W : World) (bw k : Nat) : Prop where
  o0 : W.cell? ⟨bw, 0, none⟩ = some (.slice none 0 0)
  f0 : W.frozen? ⟨bw, 0, none⟩ = false
  f1 : W.frozen? ⟨bw, 1, none⟩ = false
  row : ∃ A c, W.cell? ⟨bw, 1, none⟩ = some (.slice A k c) ∧ W.ownsRow (bw + 1) 3 1 (.slice A k c) k (List.replicate k (.int .i64 (-1)))
  lt : bw < W.heap.size
  l0 : w.heap.size ≤ bw
  be : Below w.heap.size w W
theorem LD.start (w w1 : World) (t : TypeId) (hb : Below w.heap.size w w1) : LD w (w1.alloc (.cells #[.slice none 0 0, .slice none 0 0] t)) w1.heap.size 0 := by
  have hh := heap_alloc_new w1 (.cells #[.slice none 0 0, .slice none 0 0] t)
  have hc := Lib.cell_of_heap hh
  exact ⟨hc 0, Lib.frozen_of_heap hh 0, Lib.frozen_of_heap hh 1, ⟨none, 0, hc 1, World.ownsRow_nil _ _ _ _⟩, by simp, hb.size, hb.alloc hb.size _⟩
theorem LD.step {w W w3 : World} {bw k : Nat} {A A' : Option Addr} {c c' : Nat} {o : Obj} (h : LD w W bw k) (hc : W.cell? ⟨bw, 1, none⟩ = some (.slice A k c)) (hlt : ∀ g, (Value.slice A k c).ownBlock = some g → bw + 1 ≤ g)
    (ho : w3.ownsRow (bw + 1) 3 1 (.slice A' (k + 1) c') (k + 1) (List.replicate k (.int .i64 (-1)) ++ [.int .i64 (-1)])) (hg : (W.alloc o).grownBy w3 (Value.slice A k c).ownBlock) :
    LD w (w3.setCell ⟨bw, 1, none⟩ (.slice A' (k + 1) c')) bw (k + 1) := by
  have hlt1 := h.lt
  have l0 := h.l0
  have hsz : (W.alloc o).heap.size = W.heap.size + 1 := by simp
  have hbw : w3.heap[bw]? = W.heap[bw]? := (hg.block bw (by omega) (fun e => by have := hlt bw e.symm; omega)).trans (Below.heap_alloc W o bw hlt1)
  have e := fun j => World.cell?_of_block (a := ⟨bw, j, none⟩) hbw
  have ef := fun j => World.frozen?_of_block (a := ⟨bw, j, none⟩) hbw
  have hrep : List.replicate (k + 1) (Value.int .i64 (-1)) = List.replicate k (.int .i64 (-1)) ++ [.int .i64 (-1)] := List.replicate_succ'
  refine ⟨?_, ?_, ?_, ⟨A', c', World.cell?_setCell_same w3 _ _ ((e 1).trans hc), ?_⟩, ?_, l0, ?_⟩
  · rw [World.cell?_setCell_other w3 ⟨bw, 1, none⟩ ⟨bw, 0, none⟩ _ (by simp)]; exact (e 0).trans h.o0
  · rw [World.frozen?_setCell]; exact (ef 0).trans h.f0
  · rw [World.frozen?_setCell]; exact (ef 1).trans h.f1
  · rw [hrep]; exact ownsRow_setCell_below ho (by show bw < bw + 1; omega) _
  · have := hg.size; simp; omega
  · have hb : Below w.heap.size w w3 := (h.be.alloc h.be.size o).grown hg (by have := h.be.size; omega) (fun g hg2 => by have := hlt g hg2; omega)
    exact hb.setCell (by show w.heap.size ≤ bw; exact l0) _
theorem LD.toRW {w W : World} {bw n : Nat} (h : LD w W bw n) (hn : 0 < n) : ∃ bd, bw < bd ∧ RW W W.heap.size bw bd n ⟨[], List.replicate n none⟩ := by
  obtain ⟨A, c, h1, h2⟩ := h.row
  obtain ⟨g, cap, hv, hb, hlt⟩ := h2.form hn
  have hA : A = some ⟨g, 0, none⟩ := by injection hv
  subst hA
  refine ⟨g, hb, h.lt, hlt, by omega, Nat.le_refl _, ⟨none, 0, h.o0, World.ownsRow_nil _ _ _ _⟩, h.f0, ⟨c, h1⟩, by simp, fun j hj => ?_, fun j _ => h2.frozenAt j⟩
  rw [h2.cellAt j (by omega), replicate_noneR, List.getElem?_replicate, if_pos hj]
  rfl
set_option maxRecDepth 100000 in
set_option maxHeartbeats 4000000 in
theorem rSub_own (f : List Nd) (i : Int) (A : Option Addr) (n c : Nat) (w : World) (hR : Reads w w.heap.size 6 A n (nds f)) (hm : n ≤ maxLen) :
    Calls Tryz.prog 108 #[.slice A n c, .int .i64 i] w fun e w' => ∃ A' c', e = .returned (.slice A' (subF f i).length c') ∧ w'.ownsRow w.heap.size 79 6 (.slice A' (subF f i).length c') (subF f i).length (nds (subF f i)) ∧ Below w.heap.size w w' := by
  have hl := hR.nd_len
  have HC := Lib.hid (rfCheck_any f A n c w hR hm)
  have HR := Lib.hid hR
  by_cases hz : fErr f = 0
  · by_cases h0 : 0 ≤ i
    · by_cases h1 : i < n
      · obtain ⟨k, rfl⟩ : ∃ k : Nat, i = (k : Int) := ⟨i.toNat, by omega⟩
        have hk : k < n := by omega
        have h200 : n ≤ 200 := by have := (fErr_ok hz).2.1; omega
        have HW : Hid (∀ W bw bd base, RW W base bw bd n ⟨[], List.replicate n none⟩ → Reads W w.heap.size 6 A n (nds f) → w.heap.size ≤ bw → w.heap.size ≤ bd → w.heap.size ≤ base →
            Calls Tryz.prog 147 #[.slice A n c, .int .i64 (k : Int), .pointer (some ⟨bw, 0, none⟩)] W fun e w' =>
              e = .returned (.int .i64 ((finW f n k ⟨[], List.replicate n none⟩).1 : Nat)) ∧ RW w' base bw bd n (finW f n k ⟨[], List.replicate n none⟩).2 ∧ Fr bw bd W w') :=
          Lib.hid (fun W bw bd base h2 h3 h4 h5 h6 => rFinish_any f (fErr_ops hz) (fErr_known hz) A n c w.heap.size base bw bd (by omega) hl h4 h5 h6 n k _ W hk hk (cnt0R n) h2 h3)
        have HE : Hid ((finW f n k ⟨[], List.replicate n none⟩).2.out = subF f k) := Lib.hid (by have := walk_sub (fuel := n) hz (by omega : k < f.length) (by omega); rw [hl] at this; exact this)
        rw [hz] at HC
        generalize finW f n k ⟨[], List.replicate n none⟩ = r at *
        generalize subF f k = q at *
        obtain ⟨r1, out, done⟩ := r
        have HE2 : out = q := HE.out
        subst HE2
        have d0 : decide ((k : Int) < 0) = false := decide_eq_false (by omega)
        have d1 : decide ((k : Int) ≥ (n : Int)) = false := decide_eq_false (by omega)
        have d2 : decide (n ≤ k) = false := decide_eq_false (by omega)
        obtain ⟨i0, hi, hz0, hz1, hz2⟩ := info_parts Tryz.infoIR
        clear HE hR h0 h1 hz hl
        go_enter Tryz.func108, Tryz.ntmps108
        go_wp2_with fail
        refine (HC.out).mono ?_
        rintro e w1 ⟨rfl, hb1⟩
        have HL0 := Lib.hid (LD.start w w1 136 hb1)
        clear hb1
        go_wp2
        try simp only [d2]
        go_loopw [6] (fun i wr => ∃ m : Nat, m ≤ n ∧ i = .int .i64 m ∧ Hid (LD w wr w1.heap.size m)) (fun i _ => n - (intOf i).toNat)
        case atStart => exact ⟨0, Nat.zero_le _, rfl, HL0⟩
        case round =>
          obtain ⟨m, hmn, rfl, HL⟩ := hrel
          by_cases hlt : m < n
          · obtain ⟨A1, c1, hc1, hown⟩ := HL.out.row
            have hf1 := HL.out.f1
            have ebw := HL.out.lt
            have e0 := World.new_ne wr _ hc1
            have hst : Hid (∀ g, (Value.slice A1 m c1).ownBlock = some g → w1.heap.size + 1 ≤ g ∧ g < wr.heap.size) := Lib.hid hown.lt
            have HC1 := Lib.hid hc1
            have HF1 := Lib.hid hf1
            go_wp2_with (at_builtin; refine wpList_append_own _ rfl _ _ 28 rfl (w1.heap.size + 1) 3 i0 (.int .i64 0) 1 8 Tryz.underlying28 hi hz0 hz1 hz2 rfl (by decide) _ _ _ rfl (hown.alloc _) ⟨wr.heap.size, 0, none⟩ 1 1 [.int .i64 (-1)] rfl rfl ?k1 ?k2 ?k3 ?k4 ?k5 ?_)
            case k2 => rfl
            case k3 => unfold maxLen; omega
            case k4 => omega
            case k5 => first | omega | (simp; omega)
            · intro v' w3 hown' hgrow _
              obtain ⟨A3, c3, rfl⟩ := own_slK hown'
              have hgc := hgrow.cell_far ⟨w1.heap.size, 1, none⟩ (by show w1.heap.size < (wr.alloc _).heap.size; simp; omega) (fun e => absurd (hst.out w1.heap.size e.symm).1 (by omega))
              have hgf := hgrow.frozen_far ⟨w1.heap.size, 1, none⟩ (by show w1.heap.size < (wr.alloc _).heap.size; simp; omega) (fun e => absurd (hst.out w1.heap.size e.symm).1 (by omega))
              have hc3 : w3.cell? ⟨w1.heap.size, 1, none⟩ = some (.slice A1 m c1) := hgc.trans ((World.cell?_of_block (a := ⟨w1.heap.size, 1, none⟩) (Below.heap_alloc wr _ _ ebw)).trans HC1.out)
              have hf3 : w3.frozen? ⟨w1.heap.size, 1, none⟩ = false := hgf.trans ((World.frozen?_of_block (a := ⟨w1.heap.size, 1, none⟩) (Below.heap_alloc wr _ _ ebw)).trans HF1.out)
              have HL2 := Lib.hid (HL.out.step HC1.out (fun g hg => (hst.out g hg).1) hown' hgrow)
              clear hgc hgf hown' hgrow hown hc1 hf1 e0
              go_wp2
              go_roundw
              case rel => exact ⟨m + 1, by omega, by go_num, HL2⟩
              case measure => simp [intOf]; omega
          · have hmn2 : m = n := by omega
            subst hmn2
            obtain ⟨bd, hbd, hRW⟩ := HL.out.toRW (by omega)
            have l0 := HL.out.l0
            have HBL := Lib.hid HL.out.be
            have HRW := Lib.hid hRW
            have lsz := HL.out.be.size
            clear hRW
            go_wp2_with fail
            refine (HW.out wr w1.heap.size bd wr.heap.size HRW.out (HR.out.below HBL.out) l0 (by omega) (by omega)).mono ?_
            rintro e w4 ⟨rfl, hS, hF⟩
            obtain ⟨A2, c2, h2, hrow⟩ := hS.out
            have HO := Lib.hid hrow
            have HWF := Lib.hid (HBL.out.trans (hF.low (B := w.heap.size) (by omega) l0 (by omega) (fun g hg => by have := (HRW.out.row g hg).1; omega)))
            clear hS hF hrow
            replace h2 : w4.cell? ⟨w1.heap.size, 0, none⟩ = some (.slice A2 out.length c2) := h2
            go_wp2
            go_ret
            exact ⟨A2, c2, rfl, own_baseR HO.out (by omega), HWF.out⟩
      · have d0 : decide (i < 0) = false := decide_eq_false (by omega)
        have d1 : decide (i ≥ (n : Int)) = true := decide_eq_true (by omega)
        have HE : Hid (subF f i = []) := Lib.hid (by unfold subF; rw [if_neg (by omega)])
        rw [hz] at HC
        generalize subF f i = q at *
        have HE2 : q = [] := HE.out
        subst HE2
        clear HE hR h0 h1 hz hl
        go_enter Tryz.func108, Tryz.ntmps108
        go_wp2_with fail
        refine (HC.out).mono ?_
        rintro e w1 ⟨rfl, hb1⟩
        have HB1 := Lib.hid hb1
        clear hb1
        go_wp2
        go_ret
        exact ⟨none, 0, rfl, World.ownsRow_nil _ _ _ _, HB1.out⟩
    · have d0 : decide (i < 0) = true := decide_eq_true (by omega)
      have HE : Hid (subF f i = []) := Lib.hid (by unfold subF; rw [if_neg (by omega)])
      rw [hz] at HC
      generalize subF f i = q at *
      have HE2 : q = [] := HE.out
      subst HE2
      clear HE hR h0 hz hl
      go_enter Tryz.func108, Tryz.ntmps108
      go_wp2_with fail
      refine (HC.out).mono ?_
      rintro e w1 ⟨rfl, hb1⟩
      have HB1 := Lib.hid hb1
      clear hb1
      go_wp2
      go_ret
      exact ⟨none, 0, rfl, World.ownsRow_nil _ _ _ _, HB1.out⟩
  · have HE : Hid (subF f i = []) := Lib.hid (by unfold subF; rw [if_neg (fun e => hz e.1)])
    have hz1 : (fErr f != 0) = true := by simpa using hz
    generalize subF f i = q at *
    generalize fErr f = z at *
    have HE2 : q = [] := HE.out
    subst HE2
    clear HE hR hz hl
    go_enter Tryz.func108, Tryz.ntmps108
    go_wp2_with fail
    refine (HC.out).mono ?_
    rintro e w1 ⟨rfl, hb1⟩
    have HB1 := Lib.hid hb1
    clear hb1
    go_wp2
    go_ret
    exact ⟨none, 0, rfl, World.ownsRow_nil _ _ _ _, HB1.out⟩
theorem rSub_any (f : List Nd) (i : Int) (A : Option Addr) (n c : Nat) (w : World) (hR : Reads w w.heap.size 6 A n (nds f)) (hm : n ≤ maxLen) :
    Calls Tryz.prog 108 #[.slice A n c, .int .i64 i] w fun e w' => ∃ A' c', e = .returned (.slice A' (subF f i).length c') ∧ Reads w' w'.heap.size 6 A' (subF f i).length (nds (subF f i)) ∧ Below w.heap.size w w' :=
  (rSub_own f i A n c w hR hm).mono (by
    rintro e w' ⟨A', c', rfl, h1, h2⟩
    exact ⟨A', c', rfl, Reads.of_own h1, h2⟩)
end Go.Proofs.YtjpmhbnikoggaaaGreatDoor
