/- Layer 5: the reference's error of a node (the rest). -/
import Derived.Test.YtjpmhbnikoggaaaGreatDoorNJc
namespace Go.Proofs.YtjpmhbnikoggaaaGreatDoor
open Go.RowKit Go.Proofs.Ws
set_option maxRecDepth 100000 in
set_option maxHeartbeats 8000000 in
theorem rNode_h (op i e g x y idx : Int) (w : World) (hu : known op = true) (hx : usesX op = true) (hy : usesY op = true) (ha : hasAgent op = false) (hg : hasGroup op = true) (h3 : (op == 3) = false) (h17 : (op == 17) = false) (hN : shN op = 0) (hE : shE op = 0) (hG : shG op = 15) :
    Calls Tryz.prog 107 #[.agg #[.int .i64 op, .int .i64 i, .int .i64 e, .int .i64 g, .int .i64 x, .int .i64 y], .int .i64 idx] w fun e' w' => e' = .returned (.int .i64 (nodeErr ⟨op, i, e, g, x, y⟩ idx)) ∧ Below w.heap.size w w' := by
  have HX : Hid (∀ W, Calls Tryz.prog 73 #[.int .i64 op] W fun e w' => e = .returned (.bool true) ∧ W = w') := Lib.hid (fun W => hx ▸ rUsesX_any op hu W)
  have HY : Hid (∀ W, Calls Tryz.prog 74 #[.int .i64 op] W fun e w' => e = .returned (.bool true) ∧ W = w') := Lib.hid (fun W => hy ▸ rUsesY_any op hu W)
  have HA : Hid (∀ W, Calls Tryz.prog 145 #[.int .i64 op] W fun e w' => e = .returned (.bool false) ∧ W = w') := Lib.hid (fun W => ha ▸ ragent_any op hu W)
  have HG : Hid (∀ W, Calls Tryz.prog 146 #[.int .i64 op] W fun e w' => e = .returned (.bool true) ∧ W = w') := Lib.hid (fun W => hg ▸ rgroup_any op hu W)
  have HB : Hid (∀ o, Below w.heap.size w (w.alloc o)) := Lib.hid (fun o => (Below.refl _ w).alloc (Nat.le_refl _) o)
  have d3 : decide (op = 3) = false := h3
  have d17 : decide (op = 17) = false := h17
  have HV : Hid (nodeErr ⟨op, i, e, g, x, y⟩ idx = if ((!decide (x < 0) && !decide (idx ≤ x)) && (!decide (y < 0) && !decide (idx ≤ y)) && (!(i != 0)) && (!(e != 0)) && (true)) = false then 3 else if ((true) && (true) && (!decide (g < 1) && !decide (16 ≤ g))) = false then 2 else 0) := Lib.hid (by
    unfold nodeErr formOk rangeOk
    simp only [hu, hx, hy, ha, hg, d3, d17, hN, hE, hG, le_lt_dec, le_le_dec, zero_dec]
    rfl)
  have k17 : (op != 17) = true := by rw [bne, h17]; rfl
  have lo : decide (op < 1) = false := by
    simp only [known, Bool.and_eq_true, decide_eq_true_eq] at hu
    simp; omega
  have hi : decide (21 < op) = false := by
    simp only [known, Bool.and_eq_true, decide_eq_true_eq] at hu
    simp; omega
  clear hu hx hy ha hg d3 d17 hN hE hG
  cases c0 : (decide (x < 0)) with
  | true =>
    rw [show nodeErr ⟨op, i, e, g, x, y⟩ idx = 3 from by rw [HV.out]; simp only [c0]; rfl]
    clear HV
    go_enter Tryz.func107, Tryz.ntmps107
    go_wp2_with (first | (go_at_call 73; refine (HX.out _).mono ?_; rintro e' w' ⟨rfl, rfl⟩) | (go_at_call 74; refine (HY.out _).mono ?_; rintro e' w' ⟨rfl, rfl⟩) | (go_at_call 145; refine (HA.out _).mono ?_; rintro e' w' ⟨rfl, rfl⟩) | (go_at_call 146; refine (HG.out _).mono ?_; rintro e' w' ⟨rfl, rfl⟩))
    go_ret
    exact ⟨rfl, HB.out _⟩
  | false =>
    cases c1 : (decide (idx ≤ x)) with
    | true =>
      rw [show nodeErr ⟨op, i, e, g, x, y⟩ idx = 3 from by rw [HV.out]; simp only [c0, c1]; rfl]
      clear HV
      go_enter Tryz.func107, Tryz.ntmps107
      go_wp2_with (first | (go_at_call 73; refine (HX.out _).mono ?_; rintro e' w' ⟨rfl, rfl⟩) | (go_at_call 74; refine (HY.out _).mono ?_; rintro e' w' ⟨rfl, rfl⟩) | (go_at_call 145; refine (HA.out _).mono ?_; rintro e' w' ⟨rfl, rfl⟩) | (go_at_call 146; refine (HG.out _).mono ?_; rintro e' w' ⟨rfl, rfl⟩))
      go_ret
      exact ⟨rfl, HB.out _⟩
    | false =>
      cases c2 : (decide (y < 0)) with
      | true =>
        rw [show nodeErr ⟨op, i, e, g, x, y⟩ idx = 3 from by rw [HV.out]; simp only [c0, c1, c2]; rfl]
        clear HV
        go_enter Tryz.func107, Tryz.ntmps107
        go_wp2_with (first | (go_at_call 73; refine (HX.out _).mono ?_; rintro e' w' ⟨rfl, rfl⟩) | (go_at_call 74; refine (HY.out _).mono ?_; rintro e' w' ⟨rfl, rfl⟩) | (go_at_call 145; refine (HA.out _).mono ?_; rintro e' w' ⟨rfl, rfl⟩) | (go_at_call 146; refine (HG.out _).mono ?_; rintro e' w' ⟨rfl, rfl⟩))
        go_ret
        exact ⟨rfl, HB.out _⟩
      | false =>
        cases c3 : (decide (idx ≤ y)) with
        | true =>
          rw [show nodeErr ⟨op, i, e, g, x, y⟩ idx = 3 from by rw [HV.out]; simp only [c0, c1, c2, c3]; rfl]
          clear HV
          go_enter Tryz.func107, Tryz.ntmps107
          go_wp2_with (first | (go_at_call 73; refine (HX.out _).mono ?_; rintro e' w' ⟨rfl, rfl⟩) | (go_at_call 74; refine (HY.out _).mono ?_; rintro e' w' ⟨rfl, rfl⟩) | (go_at_call 145; refine (HA.out _).mono ?_; rintro e' w' ⟨rfl, rfl⟩) | (go_at_call 146; refine (HG.out _).mono ?_; rintro e' w' ⟨rfl, rfl⟩))
          go_ret
          exact ⟨rfl, HB.out _⟩
        | false =>
          cases c4 : (i != 0) with
          | true =>
            rw [show nodeErr ⟨op, i, e, g, x, y⟩ idx = 3 from by rw [HV.out]; simp only [c0, c1, c2, c3, c4]; rfl]
            clear HV
            go_enter Tryz.func107, Tryz.ntmps107
            go_wp2_with (first | (go_at_call 73; refine (HX.out _).mono ?_; rintro e' w' ⟨rfl, rfl⟩) | (go_at_call 74; refine (HY.out _).mono ?_; rintro e' w' ⟨rfl, rfl⟩) | (go_at_call 145; refine (HA.out _).mono ?_; rintro e' w' ⟨rfl, rfl⟩) | (go_at_call 146; refine (HG.out _).mono ?_; rintro e' w' ⟨rfl, rfl⟩))
            go_ret
            exact ⟨rfl, HB.out _⟩
          | false =>
            cases c5 : (e != 0) with
            | true =>
              rw [show nodeErr ⟨op, i, e, g, x, y⟩ idx = 3 from by rw [HV.out]; simp only [c0, c1, c2, c3, c4, c5]; rfl]
              clear HV
              go_enter Tryz.func107, Tryz.ntmps107
              go_wp2_with (first | (go_at_call 73; refine (HX.out _).mono ?_; rintro e' w' ⟨rfl, rfl⟩) | (go_at_call 74; refine (HY.out _).mono ?_; rintro e' w' ⟨rfl, rfl⟩) | (go_at_call 145; refine (HA.out _).mono ?_; rintro e' w' ⟨rfl, rfl⟩) | (go_at_call 146; refine (HG.out _).mono ?_; rintro e' w' ⟨rfl, rfl⟩))
              go_ret
              exact ⟨rfl, HB.out _⟩
            | false =>
              cases c6 : (decide (g < 1)) with
              | true =>
                rw [show nodeErr ⟨op, i, e, g, x, y⟩ idx = 2 from by rw [HV.out]; simp only [c0, c1, c2, c3, c4, c5, c6]; rfl]
                clear HV
                go_enter Tryz.func107, Tryz.ntmps107
                go_wp2_with (first | (go_at_call 73; refine (HX.out _).mono ?_; rintro e' w' ⟨rfl, rfl⟩) | (go_at_call 74; refine (HY.out _).mono ?_; rintro e' w' ⟨rfl, rfl⟩) | (go_at_call 145; refine (HA.out _).mono ?_; rintro e' w' ⟨rfl, rfl⟩) | (go_at_call 146; refine (HG.out _).mono ?_; rintro e' w' ⟨rfl, rfl⟩))
                go_ret
                exact ⟨rfl, HB.out _⟩
              | false =>
                cases c7 : (decide (16 ≤ g)) with
                | true =>
                  rw [show nodeErr ⟨op, i, e, g, x, y⟩ idx = 2 from by rw [HV.out]; simp only [c0, c1, c2, c3, c4, c5, c6, c7]; rfl]
                  clear HV
                  go_enter Tryz.func107, Tryz.ntmps107
                  go_wp2_with (first | (go_at_call 73; refine (HX.out _).mono ?_; rintro e' w' ⟨rfl, rfl⟩) | (go_at_call 74; refine (HY.out _).mono ?_; rintro e' w' ⟨rfl, rfl⟩) | (go_at_call 145; refine (HA.out _).mono ?_; rintro e' w' ⟨rfl, rfl⟩) | (go_at_call 146; refine (HG.out _).mono ?_; rintro e' w' ⟨rfl, rfl⟩))
                  go_ret
                  exact ⟨rfl, HB.out _⟩
                | false =>
                  rw [show nodeErr ⟨op, i, e, g, x, y⟩ idx = 0 from by rw [HV.out]; simp only [c0, c1, c2, c3, c4, c5, c6, c7]; rfl]
                  clear HV
                  go_enter Tryz.func107, Tryz.ntmps107
                  go_wp2_with (first | (go_at_call 73; refine (HX.out _).mono ?_; rintro e' w' ⟨rfl, rfl⟩) | (go_at_call 74; refine (HY.out _).mono ?_; rintro e' w' ⟨rfl, rfl⟩) | (go_at_call 145; refine (HA.out _).mono ?_; rintro e' w' ⟨rfl, rfl⟩) | (go_at_call 146; refine (HG.out _).mono ?_; rintro e' w' ⟨rfl, rfl⟩))
                  go_ret
                  exact ⟨rfl, HB.out _⟩
set_option maxRecDepth 100000 in
set_option maxHeartbeats 8000000 in
theorem rNode_i (op i e g x y idx : Int) (w : World) (hu : known op = true) (hx : usesX op = true) (hy : usesY op = false) (ha : hasAgent op = false) (hg : hasGroup op = false) (h3 : (op == 3) = false) (h17 : (op == 17) = true) (hN : shN op = 8) (hE : shE op = 8) (hG : shG op = 0) :
    Calls Tryz.prog 107 #[.agg #[.int .i64 op, .int .i64 i, .int .i64 e, .int .i64 g, .int .i64 x, .int .i64 y], .int .i64 idx] w fun e' w' => e' = .returned (.int .i64 (nodeErr ⟨op, i, e, g, x, y⟩ idx)) ∧ Below w.heap.size w w' := by
  have HX : Hid (∀ W, Calls Tryz.prog 73 #[.int .i64 op] W fun e w' => e = .returned (.bool true) ∧ W = w') := Lib.hid (fun W => hx ▸ rUsesX_any op hu W)
  have HY : Hid (∀ W, Calls Tryz.prog 74 #[.int .i64 op] W fun e w' => e = .returned (.bool false) ∧ W = w') := Lib.hid (fun W => hy ▸ rUsesY_any op hu W)
  have HA : Hid (∀ W, Calls Tryz.prog 145 #[.int .i64 op] W fun e w' => e = .returned (.bool false) ∧ W = w') := Lib.hid (fun W => ha ▸ ragent_any op hu W)
  have HG : Hid (∀ W, Calls Tryz.prog 146 #[.int .i64 op] W fun e w' => e = .returned (.bool false) ∧ W = w') := Lib.hid (fun W => hg ▸ rgroup_any op hu W)
  have HB : Hid (∀ o, Below w.heap.size w (w.alloc o)) := Lib.hid (fun o => (Below.refl _ w).alloc (Nat.le_refl _) o)
  have d3 : decide (op = 3) = false := h3
  have d17 : decide (op = 17) = true := h17
  have HV : Hid (nodeErr ⟨op, i, e, g, x, y⟩ idx = if ((!decide (x < 0) && !decide (idx ≤ x)) && (!(y != 0)) && (true) && (true) && (!(g != 0))) = false then 3 else if ((!decide (i < 0) && !decide (8 ≤ i)) && (!decide (e < 0) && !decide (8 ≤ e)) && (true)) = false then 2 else 0) := Lib.hid (by
    unfold nodeErr formOk rangeOk
    simp only [hu, hx, hy, ha, hg, d3, d17, hN, hE, hG, le_lt_dec, zero_dec]
    rfl)
  have k17 : (op != 17) = false := by rw [bne, h17]; rfl
  have lo : decide (op < 1) = false := by
    simp only [known, Bool.and_eq_true, decide_eq_true_eq] at hu
    simp; omega
  have hi : decide (21 < op) = false := by
    simp only [known, Bool.and_eq_true, decide_eq_true_eq] at hu
    simp; omega
  clear hu hx hy ha hg d3 d17 hN hE hG
  cases c0 : (decide (x < 0)) with
  | true =>
    rw [show nodeErr ⟨op, i, e, g, x, y⟩ idx = 3 from by rw [HV.out]; simp only [c0]; rfl]
    clear HV
    go_enter Tryz.func107, Tryz.ntmps107
    go_wp2_with (first | (go_at_call 73; refine (HX.out _).mono ?_; rintro e' w' ⟨rfl, rfl⟩) | (go_at_call 74; refine (HY.out _).mono ?_; rintro e' w' ⟨rfl, rfl⟩) | (go_at_call 145; refine (HA.out _).mono ?_; rintro e' w' ⟨rfl, rfl⟩) | (go_at_call 146; refine (HG.out _).mono ?_; rintro e' w' ⟨rfl, rfl⟩))
    go_ret
    exact ⟨rfl, HB.out _⟩
  | false =>
    cases c1 : (decide (idx ≤ x)) with
    | true =>
      rw [show nodeErr ⟨op, i, e, g, x, y⟩ idx = 3 from by rw [HV.out]; simp only [c0, c1]; rfl]
      clear HV
      go_enter Tryz.func107, Tryz.ntmps107
      go_wp2_with (first | (go_at_call 73; refine (HX.out _).mono ?_; rintro e' w' ⟨rfl, rfl⟩) | (go_at_call 74; refine (HY.out _).mono ?_; rintro e' w' ⟨rfl, rfl⟩) | (go_at_call 145; refine (HA.out _).mono ?_; rintro e' w' ⟨rfl, rfl⟩) | (go_at_call 146; refine (HG.out _).mono ?_; rintro e' w' ⟨rfl, rfl⟩))
      go_ret
      exact ⟨rfl, HB.out _⟩
    | false =>
      cases c2 : (y != 0) with
      | true =>
        rw [show nodeErr ⟨op, i, e, g, x, y⟩ idx = 3 from by rw [HV.out]; simp only [c0, c1, c2]; rfl]
        clear HV
        go_enter Tryz.func107, Tryz.ntmps107
        go_wp2_with (first | (go_at_call 73; refine (HX.out _).mono ?_; rintro e' w' ⟨rfl, rfl⟩) | (go_at_call 74; refine (HY.out _).mono ?_; rintro e' w' ⟨rfl, rfl⟩) | (go_at_call 145; refine (HA.out _).mono ?_; rintro e' w' ⟨rfl, rfl⟩) | (go_at_call 146; refine (HG.out _).mono ?_; rintro e' w' ⟨rfl, rfl⟩))
        go_ret
        exact ⟨rfl, HB.out _⟩
      | false =>
        cases c3 : (g != 0) with
        | true =>
          rw [show nodeErr ⟨op, i, e, g, x, y⟩ idx = 3 from by rw [HV.out]; simp only [c0, c1, c2, c3]; rfl]
          clear HV
          go_enter Tryz.func107, Tryz.ntmps107
          go_wp2_with (first | (go_at_call 73; refine (HX.out _).mono ?_; rintro e' w' ⟨rfl, rfl⟩) | (go_at_call 74; refine (HY.out _).mono ?_; rintro e' w' ⟨rfl, rfl⟩) | (go_at_call 145; refine (HA.out _).mono ?_; rintro e' w' ⟨rfl, rfl⟩) | (go_at_call 146; refine (HG.out _).mono ?_; rintro e' w' ⟨rfl, rfl⟩))
          go_ret
          exact ⟨rfl, HB.out _⟩
        | false =>
          cases c4 : (decide (i < 0)) with
          | true =>
            rw [show nodeErr ⟨op, i, e, g, x, y⟩ idx = 2 from by rw [HV.out]; simp only [c0, c1, c2, c3, c4]; rfl]
            clear HV
            go_enter Tryz.func107, Tryz.ntmps107
            go_wp2_with (first | (go_at_call 73; refine (HX.out _).mono ?_; rintro e' w' ⟨rfl, rfl⟩) | (go_at_call 74; refine (HY.out _).mono ?_; rintro e' w' ⟨rfl, rfl⟩) | (go_at_call 145; refine (HA.out _).mono ?_; rintro e' w' ⟨rfl, rfl⟩) | (go_at_call 146; refine (HG.out _).mono ?_; rintro e' w' ⟨rfl, rfl⟩))
            go_ret
            exact ⟨rfl, HB.out _⟩
          | false =>
            cases c5 : (decide (8 ≤ i)) with
            | true =>
              rw [show nodeErr ⟨op, i, e, g, x, y⟩ idx = 2 from by rw [HV.out]; simp only [c0, c1, c2, c3, c4, c5]; rfl]
              clear HV
              go_enter Tryz.func107, Tryz.ntmps107
              go_wp2_with (first | (go_at_call 73; refine (HX.out _).mono ?_; rintro e' w' ⟨rfl, rfl⟩) | (go_at_call 74; refine (HY.out _).mono ?_; rintro e' w' ⟨rfl, rfl⟩) | (go_at_call 145; refine (HA.out _).mono ?_; rintro e' w' ⟨rfl, rfl⟩) | (go_at_call 146; refine (HG.out _).mono ?_; rintro e' w' ⟨rfl, rfl⟩))
              go_ret
              exact ⟨rfl, HB.out _⟩
            | false =>
              cases c6 : (decide (e < 0)) with
              | true =>
                rw [show nodeErr ⟨op, i, e, g, x, y⟩ idx = 2 from by rw [HV.out]; simp only [c0, c1, c2, c3, c4, c5, c6]; rfl]
                clear HV
                go_enter Tryz.func107, Tryz.ntmps107
                go_wp2_with (first | (go_at_call 73; refine (HX.out _).mono ?_; rintro e' w' ⟨rfl, rfl⟩) | (go_at_call 74; refine (HY.out _).mono ?_; rintro e' w' ⟨rfl, rfl⟩) | (go_at_call 145; refine (HA.out _).mono ?_; rintro e' w' ⟨rfl, rfl⟩) | (go_at_call 146; refine (HG.out _).mono ?_; rintro e' w' ⟨rfl, rfl⟩))
                go_ret
                exact ⟨rfl, HB.out _⟩
              | false =>
                cases c7 : (decide (8 ≤ e)) with
                | true =>
                  rw [show nodeErr ⟨op, i, e, g, x, y⟩ idx = 2 from by rw [HV.out]; simp only [c0, c1, c2, c3, c4, c5, c6, c7]; rfl]
                  clear HV
                  go_enter Tryz.func107, Tryz.ntmps107
                  go_wp2_with (first | (go_at_call 73; refine (HX.out _).mono ?_; rintro e' w' ⟨rfl, rfl⟩) | (go_at_call 74; refine (HY.out _).mono ?_; rintro e' w' ⟨rfl, rfl⟩) | (go_at_call 145; refine (HA.out _).mono ?_; rintro e' w' ⟨rfl, rfl⟩) | (go_at_call 146; refine (HG.out _).mono ?_; rintro e' w' ⟨rfl, rfl⟩))
                  go_ret
                  exact ⟨rfl, HB.out _⟩
                | false =>
                  rw [show nodeErr ⟨op, i, e, g, x, y⟩ idx = 0 from by rw [HV.out]; simp only [c0, c1, c2, c3, c4, c5, c6, c7]; rfl]
                  clear HV
                  go_enter Tryz.func107, Tryz.ntmps107
                  go_wp2_with (first | (go_at_call 73; refine (HX.out _).mono ?_; rintro e' w' ⟨rfl, rfl⟩) | (go_at_call 74; refine (HY.out _).mono ?_; rintro e' w' ⟨rfl, rfl⟩) | (go_at_call 145; refine (HA.out _).mono ?_; rintro e' w' ⟨rfl, rfl⟩) | (go_at_call 146; refine (HG.out _).mono ?_; rintro e' w' ⟨rfl, rfl⟩))
                  go_ret
                  exact ⟨rfl, HB.out _⟩
end Go.Proofs.YtjpmhbnikoggaaaGreatDoor
