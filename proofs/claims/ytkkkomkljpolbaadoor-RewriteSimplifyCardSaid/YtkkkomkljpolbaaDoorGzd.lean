/- Layer 8: simpleModal of the reference. -/
import Derived.Test.YtkkkomkljpolbaaDoorGzb
namespace Go.Proofs.YtkkkomkljpolbaaDoor
open Go.RowKit Go.Proofs.Ws Go.Maps
set_option maxRecDepth 100000
set_option maxHeartbeats 8000000 in
theorem sMod4_any (s : Tr) (hs : AllOk s) (ls : (canT s).length ≤ 199) (A : Option Addr) (ca : Nat) (w : World) (hA : w.ownsRow 0 62 6 (.slice A (canT s).length ca) (canT s).length (nds (canT s))) :
    Calls Tryd.prog 63 #[.int .i64 4, .slice A (canT s).length ca, .slice none 0 0] w fun e w' => ∃ A' c', e = .returned (.slice A' (oL (sModO 4 s noT)).length c') ∧ w'.ownsRow 0 62 6 (.slice A' (oL (sModO 4 s noT)).length c') (oL (sModO 4 s noT)).length (nds (oL (sModO 4 s noT))) ∧ Below w.heap.size w w' := by
  have HA := Lib.hid hA
  clear hA
  by_cases hs1 : topT s = 1
  · have HR : Hid (oL (sModO 4 s noT) = canT (cT 2)) := Lib.hid (by simp [sModO, oL, hs1])
    rw [HR.out]
    have HK := Lib.hid (fun (W : World) (_ : Below w.heap.size w W) => rFalse_own8 W)
    have es1 : (topT s == 1) = true := by simpa using hs1
    have HT1 := Lib.hid (top_any (canT s) A (canT s).length ca w (Reads.of_own HA.out) (canT_ne s) (by unfold maxLen; omega))
    rw [topF_can hs] at HT1
    clear HR hs1 hs
    generalize topT s = ts at *
    generalize canT (cT 2) = ns at *
    generalize canT s = la at *
    have HBZ : Hid (Below w.heap.size w w) := Lib.hid (Below.refl _ _)
    go_enter Tryd.func63, Tryd.ntmps63
    go_wp2_with fail
    refine (HT1.out).mono ?_
    rintro r w1 ⟨rfl, rfl⟩
    go_wp2_with fail
    refine (HK.out w HBZ.out).mono ?_
    rintro r wz ⟨A', c', rfl, ho, hb⟩
    have HO := Lib.hid ho
    have HBz := Lib.hid (HBZ.out.trans (hb.mono HBZ.out.size))
    clear ho hb
    go_wp2
    go_ret
    exact ⟨A', c', rfl, HO.out, HBz.out⟩
  · by_cases hs2 : topT s = 2
    · have HR : Hid (oL (sModO 4 s noT) = canT (cT 1)) := Lib.hid (by simp [sModO, oL, hs2])
      rw [HR.out]
      have HK := Lib.hid (fun (W : World) (_ : Below w.heap.size w W) => rTrue_own8 W)
      have es1 : (topT s == 1) = false := by simpa using hs1
      have es2 : (topT s == 2) = true := by simpa using hs2
      have HT1 := Lib.hid (top_any (canT s) A (canT s).length ca w (Reads.of_own HA.out) (canT_ne s) (by unfold maxLen; omega))
      rw [topF_can hs] at HT1
      clear HR hs1 hs2 hs
      generalize topT s = ts at *
      generalize canT (cT 1) = ns at *
      generalize canT s = la at *
      have HBZ : Hid (Below w.heap.size w w) := Lib.hid (Below.refl _ _)
      go_enter Tryd.func63, Tryd.ntmps63
      go_wp2_with fail
      refine (HT1.out).mono ?_
      rintro r w1 ⟨rfl, rfl⟩
      go_wp2_with fail
      refine (HT1.out).mono ?_
      rintro r w1 ⟨rfl, rfl⟩
      go_wp2_with fail
      refine (HK.out w HBZ.out).mono ?_
      rintro r wz ⟨A', c', rfl, ho, hb⟩
      have HO := Lib.hid ho
      have HBz := Lib.hid (HBZ.out.trans (hb.mono HBZ.out.size))
      clear ho hb
      go_wp2
      go_ret
      exact ⟨A', c', rfl, HO.out, HBz.out⟩
    · by_cases hs4 : topT s = 4
      · have HR : Hid (oL (sModO 4 s noT) = canT (negT s)) := Lib.hid (by simp [sModO, oL, hs4])
        rw [HR.out]
        have HK := Lib.hid (fun (W : World) (h : Below w.heap.size w W) => rOpp_any (canT s) A (canT s).length ca W (Reads.of_own (own_keep1 HA.out (fun g hg => h.block g (HA.out.lt g hg).2))) (by unfold maxLen; omega))
        rw [neg_can8 hs ls] at HK
        have es1 : (topT s == 1) = false := by simpa using hs1
        have es2 : (topT s == 2) = false := by simpa using hs2
        have es4 : (topT s == 4) = true := by simpa using hs4
        have HT1 := Lib.hid (top_any (canT s) A (canT s).length ca w (Reads.of_own HA.out) (canT_ne s) (by unfold maxLen; omega))
        rw [topF_can hs] at HT1
        clear HR hs1 hs2 hs4 hs
        generalize topT s = ts at *
        generalize canT (negT s) = ns at *
        generalize canT s = la at *
        have HBZ : Hid (Below w.heap.size w w) := Lib.hid (Below.refl _ _)
        go_enter Tryd.func63, Tryd.ntmps63
        go_wp2_with fail
        refine (HT1.out).mono ?_
        rintro r w1 ⟨rfl, rfl⟩
        go_wp2_with fail
        refine (HT1.out).mono ?_
        rintro r w1 ⟨rfl, rfl⟩
        go_wp2_with fail
        refine (HT1.out).mono ?_
        rintro r w1 ⟨rfl, rfl⟩
        go_wp2_with fail
        refine (HK.out w HBZ.out).mono ?_
        rintro r wz ⟨A', c', rfl, ho, hb⟩
        have HO := Lib.hid ho
        have HBz := Lib.hid (HBZ.out.trans (hb.mono HBZ.out.size))
        clear ho hb
        go_wp2
        go_ret
        exact ⟨A', c', rfl, HO.out, HBz.out⟩
      · have HR : Hid (oL (sModO 4 s noT) = []) := Lib.hid (by simp [sModO, oL, hs1, hs2, hs4])
        rw [HR.out]
        have es1 : (topT s == 1) = false := by simpa using hs1
        have es2 : (topT s == 2) = false := by simpa using hs2
        have es4 : (topT s == 4) = false := by simpa using hs4
        have HT1 := Lib.hid (top_any (canT s) A (canT s).length ca w (Reads.of_own HA.out) (canT_ne s) (by unfold maxLen; omega))
        rw [topF_can hs] at HT1
        clear HR hs1 hs2 hs4 hs
        generalize topT s = ts at *
        generalize canT s = la at *
        have HBZ : Hid (Below w.heap.size w w) := Lib.hid (Below.refl _ _)
        go_enter Tryd.func63, Tryd.ntmps63
        go_wp2_with fail
        refine (HT1.out).mono ?_
        rintro r w1 ⟨rfl, rfl⟩
        go_wp2_with fail
        refine (HT1.out).mono ?_
        rintro r w1 ⟨rfl, rfl⟩
        go_wp2_with fail
        refine (HT1.out).mono ?_
        rintro r w1 ⟨rfl, rfl⟩
        go_wp2
        go_ret
        exact ⟨none, 0, rfl, World.ownsRow_nil _ _ _ _, HBZ.out⟩
set_option maxHeartbeats 8000000 in
theorem sMod9_any (s : Tr) (hs : AllOk s) (ls : (canT s).length ≤ 199) (A : Option Addr) (ca : Nat) (w : World) (hA : w.ownsRow 0 62 6 (.slice A (canT s).length ca) (canT s).length (nds (canT s))) :
    Calls Tryd.prog 63 #[.int .i64 9, .slice A (canT s).length ca, .slice none 0 0] w fun e w' => ∃ A' c', e = .returned (.slice A' (oL (sModO 9 s noT)).length c') ∧ w'.ownsRow 0 62 6 (.slice A' (oL (sModO 9 s noT)).length c') (oL (sModO 9 s noT)).length (nds (oL (sModO 9 s noT))) ∧ Below w.heap.size w w' := by
  have HA := Lib.hid hA
  clear hA
  by_cases hs1 : topT s = 1
  · have HR : Hid (oL (sModO 9 s noT) = canT s) := Lib.hid (by simp [sModO, boxOp, oL, hs1])
    rw [HR.out]
    have es1 : (topT s == 1) = true := by simpa using hs1
    have HT1 := Lib.hid (top_any (canT s) A (canT s).length ca w (Reads.of_own HA.out) (canT_ne s) (by unfold maxLen; omega))
    rw [topF_can hs] at HT1
    clear HR hs1 hs
    generalize topT s = ts at *
    generalize canT s = la at *
    have HBZ : Hid (Below w.heap.size w w) := Lib.hid (Below.refl _ _)
    go_enter Tryd.func63, Tryd.ntmps63
    go_wp2_with fail
    refine (HT1.out).mono ?_
    rintro r w1 ⟨rfl, rfl⟩
    go_wp2
    go_ret
    exact ⟨A, ca, rfl, own_keep1 HA.out (fun g hg => HBZ.out.block g (HA.out.lt g hg).2), HBZ.out⟩
  · have HR : Hid (oL (sModO 9 s noT) = []) := Lib.hid (by simp [sModO, boxOp, oL, hs1])
    rw [HR.out]
    have es1 : (topT s == 1) = false := by simpa using hs1
    have HT1 := Lib.hid (top_any (canT s) A (canT s).length ca w (Reads.of_own HA.out) (canT_ne s) (by unfold maxLen; omega))
    rw [topF_can hs] at HT1
    clear HR hs1 hs
    generalize topT s = ts at *
    generalize canT s = la at *
    have HBZ : Hid (Below w.heap.size w w) := Lib.hid (Below.refl _ _)
    go_enter Tryd.func63, Tryd.ntmps63
    go_wp2_with fail
    refine (HT1.out).mono ?_
    rintro r w1 ⟨rfl, rfl⟩
    go_wp2
    go_ret
    exact ⟨none, 0, rfl, World.ownsRow_nil _ _ _ _, HBZ.out⟩
set_option maxHeartbeats 8000000 in
theorem sMod11_any (s : Tr) (hs : AllOk s) (ls : (canT s).length ≤ 199) (A : Option Addr) (ca : Nat) (w : World) (hA : w.ownsRow 0 62 6 (.slice A (canT s).length ca) (canT s).length (nds (canT s))) :
    Calls Tryd.prog 63 #[.int .i64 11, .slice A (canT s).length ca, .slice none 0 0] w fun e w' => ∃ A' c', e = .returned (.slice A' (oL (sModO 11 s noT)).length c') ∧ w'.ownsRow 0 62 6 (.slice A' (oL (sModO 11 s noT)).length c') (oL (sModO 11 s noT)).length (nds (oL (sModO 11 s noT))) ∧ Below w.heap.size w w' := by
  have HA := Lib.hid hA
  clear hA
  by_cases hs1 : topT s = 1
  · have HR : Hid (oL (sModO 11 s noT) = canT s) := Lib.hid (by simp [sModO, boxOp, oL, hs1])
    rw [HR.out]
    have es1 : (topT s == 1) = true := by simpa using hs1
    have HT1 := Lib.hid (top_any (canT s) A (canT s).length ca w (Reads.of_own HA.out) (canT_ne s) (by unfold maxLen; omega))
    rw [topF_can hs] at HT1
    clear HR hs1 hs
    generalize topT s = ts at *
    generalize canT s = la at *
    have HBZ : Hid (Below w.heap.size w w) := Lib.hid (Below.refl _ _)
    go_enter Tryd.func63, Tryd.ntmps63
    go_wp2_with fail
    refine (HT1.out).mono ?_
    rintro r w1 ⟨rfl, rfl⟩
    go_wp2
    go_ret
    exact ⟨A, ca, rfl, own_keep1 HA.out (fun g hg => HBZ.out.block g (HA.out.lt g hg).2), HBZ.out⟩
  · have HR : Hid (oL (sModO 11 s noT) = []) := Lib.hid (by simp [sModO, boxOp, oL, hs1])
    rw [HR.out]
    have es1 : (topT s == 1) = false := by simpa using hs1
    have HT1 := Lib.hid (top_any (canT s) A (canT s).length ca w (Reads.of_own HA.out) (canT_ne s) (by unfold maxLen; omega))
    rw [topF_can hs] at HT1
    clear HR hs1 hs
    generalize topT s = ts at *
    generalize canT s = la at *
    have HBZ : Hid (Below w.heap.size w w) := Lib.hid (Below.refl _ _)
    go_enter Tryd.func63, Tryd.ntmps63
    go_wp2_with fail
    refine (HT1.out).mono ?_
    rintro r w1 ⟨rfl, rfl⟩
    go_wp2
    go_ret
    exact ⟨none, 0, rfl, World.ownsRow_nil _ _ _ _, HBZ.out⟩
set_option maxHeartbeats 8000000 in
theorem sMod12_any (s : Tr) (hs : AllOk s) (ls : (canT s).length ≤ 199) (A : Option Addr) (ca : Nat) (w : World) (hA : w.ownsRow 0 62 6 (.slice A (canT s).length ca) (canT s).length (nds (canT s))) :
    Calls Tryd.prog 63 #[.int .i64 12, .slice A (canT s).length ca, .slice none 0 0] w fun e w' => ∃ A' c', e = .returned (.slice A' (oL (sModO 12 s noT)).length c') ∧ w'.ownsRow 0 62 6 (.slice A' (oL (sModO 12 s noT)).length c') (oL (sModO 12 s noT)).length (nds (oL (sModO 12 s noT))) ∧ Below w.heap.size w w' := by
  have HA := Lib.hid hA
  clear hA
  by_cases hs1 : topT s = 1
  · have HR : Hid (oL (sModO 12 s noT) = canT s) := Lib.hid (by simp [sModO, boxOp, oL, hs1])
    rw [HR.out]
    have es1 : (topT s == 1) = true := by simpa using hs1
    have HT1 := Lib.hid (top_any (canT s) A (canT s).length ca w (Reads.of_own HA.out) (canT_ne s) (by unfold maxLen; omega))
    rw [topF_can hs] at HT1
    clear HR hs1 hs
    generalize topT s = ts at *
    generalize canT s = la at *
    have HBZ : Hid (Below w.heap.size w w) := Lib.hid (Below.refl _ _)
    go_enter Tryd.func63, Tryd.ntmps63
    go_wp2_with fail
    refine (HT1.out).mono ?_
    rintro r w1 ⟨rfl, rfl⟩
    go_wp2
    go_ret
    exact ⟨A, ca, rfl, own_keep1 HA.out (fun g hg => HBZ.out.block g (HA.out.lt g hg).2), HBZ.out⟩
  · have HR : Hid (oL (sModO 12 s noT) = []) := Lib.hid (by simp [sModO, boxOp, oL, hs1])
    rw [HR.out]
    have es1 : (topT s == 1) = false := by simpa using hs1
    have HT1 := Lib.hid (top_any (canT s) A (canT s).length ca w (Reads.of_own HA.out) (canT_ne s) (by unfold maxLen; omega))
    rw [topF_can hs] at HT1
    clear HR hs1 hs
    generalize topT s = ts at *
    generalize canT s = la at *
    have HBZ : Hid (Below w.heap.size w w) := Lib.hid (Below.refl _ _)
    go_enter Tryd.func63, Tryd.ntmps63
    go_wp2_with fail
    refine (HT1.out).mono ?_
    rintro r w1 ⟨rfl, rfl⟩
    go_wp2
    go_ret
    exact ⟨none, 0, rfl, World.ownsRow_nil _ _ _ _, HBZ.out⟩
set_option maxHeartbeats 8000000 in
theorem sMod15_any (s : Tr) (hs : AllOk s) (ls : (canT s).length ≤ 199) (A : Option Addr) (ca : Nat) (w : World) (hA : w.ownsRow 0 62 6 (.slice A (canT s).length ca) (canT s).length (nds (canT s))) :
    Calls Tryd.prog 63 #[.int .i64 15, .slice A (canT s).length ca, .slice none 0 0] w fun e w' => ∃ A' c', e = .returned (.slice A' (oL (sModO 15 s noT)).length c') ∧ w'.ownsRow 0 62 6 (.slice A' (oL (sModO 15 s noT)).length c') (oL (sModO 15 s noT)).length (nds (oL (sModO 15 s noT))) ∧ Below w.heap.size w w' := by
  have HA := Lib.hid hA
  clear hA
  by_cases hs1 : topT s = 1
  · have HR : Hid (oL (sModO 15 s noT) = canT s) := Lib.hid (by simp [sModO, boxOp, oL, hs1])
    rw [HR.out]
    have es1 : (topT s == 1) = true := by simpa using hs1
    have HT1 := Lib.hid (top_any (canT s) A (canT s).length ca w (Reads.of_own HA.out) (canT_ne s) (by unfold maxLen; omega))
    rw [topF_can hs] at HT1
    clear HR hs1 hs
    generalize topT s = ts at *
    generalize canT s = la at *
    have HBZ : Hid (Below w.heap.size w w) := Lib.hid (Below.refl _ _)
    go_enter Tryd.func63, Tryd.ntmps63
    go_wp2_with fail
    refine (HT1.out).mono ?_
    rintro r w1 ⟨rfl, rfl⟩
    go_wp2
    go_ret
    exact ⟨A, ca, rfl, own_keep1 HA.out (fun g hg => HBZ.out.block g (HA.out.lt g hg).2), HBZ.out⟩
  · have HR : Hid (oL (sModO 15 s noT) = []) := Lib.hid (by simp [sModO, boxOp, oL, hs1])
    rw [HR.out]
    have es1 : (topT s == 1) = false := by simpa using hs1
    have HT1 := Lib.hid (top_any (canT s) A (canT s).length ca w (Reads.of_own HA.out) (canT_ne s) (by unfold maxLen; omega))
    rw [topF_can hs] at HT1
    clear HR hs1 hs
    generalize topT s = ts at *
    generalize canT s = la at *
    have HBZ : Hid (Below w.heap.size w w) := Lib.hid (Below.refl _ _)
    go_enter Tryd.func63, Tryd.ntmps63
    go_wp2_with fail
    refine (HT1.out).mono ?_
    rintro r w1 ⟨rfl, rfl⟩
    go_wp2
    go_ret
    exact ⟨none, 0, rfl, World.ownsRow_nil _ _ _ _, HBZ.out⟩
set_option maxHeartbeats 8000000 in
theorem sMod17_any (s : Tr) (hs : AllOk s) (ls : (canT s).length ≤ 199) (A : Option Addr) (ca : Nat) (w : World) (hA : w.ownsRow 0 62 6 (.slice A (canT s).length ca) (canT s).length (nds (canT s))) :
    Calls Tryd.prog 63 #[.int .i64 17, .slice A (canT s).length ca, .slice none 0 0] w fun e w' => ∃ A' c', e = .returned (.slice A' (oL (sModO 17 s noT)).length c') ∧ w'.ownsRow 0 62 6 (.slice A' (oL (sModO 17 s noT)).length c') (oL (sModO 17 s noT)).length (nds (oL (sModO 17 s noT))) ∧ Below w.heap.size w w' := by
  have HA := Lib.hid hA
  clear hA
  by_cases hs1 : topT s = 1
  · have HR : Hid (oL (sModO 17 s noT) = canT s) := Lib.hid (by simp [sModO, boxOp, oL, hs1])
    rw [HR.out]
    have es1 : (topT s == 1) = true := by simpa using hs1
    have HT1 := Lib.hid (top_any (canT s) A (canT s).length ca w (Reads.of_own HA.out) (canT_ne s) (by unfold maxLen; omega))
    rw [topF_can hs] at HT1
    clear HR hs1 hs
    generalize topT s = ts at *
    generalize canT s = la at *
    have HBZ : Hid (Below w.heap.size w w) := Lib.hid (Below.refl _ _)
    go_enter Tryd.func63, Tryd.ntmps63
    go_wp2_with fail
    refine (HT1.out).mono ?_
    rintro r w1 ⟨rfl, rfl⟩
    go_wp2
    go_ret
    exact ⟨A, ca, rfl, own_keep1 HA.out (fun g hg => HBZ.out.block g (HA.out.lt g hg).2), HBZ.out⟩
  · have HR : Hid (oL (sModO 17 s noT) = []) := Lib.hid (by simp [sModO, boxOp, oL, hs1])
    rw [HR.out]
    have es1 : (topT s == 1) = false := by simpa using hs1
    have HT1 := Lib.hid (top_any (canT s) A (canT s).length ca w (Reads.of_own HA.out) (canT_ne s) (by unfold maxLen; omega))
    rw [topF_can hs] at HT1
    clear HR hs1 hs
    generalize topT s = ts at *
    generalize canT s = la at *
    have HBZ : Hid (Below w.heap.size w w) := Lib.hid (Below.refl _ _)
    go_enter Tryd.func63, Tryd.ntmps63
    go_wp2_with fail
    refine (HT1.out).mono ?_
    rintro r w1 ⟨rfl, rfl⟩
    go_wp2
    go_ret
    exact ⟨none, 0, rfl, World.ownsRow_nil _ _ _ _, HBZ.out⟩
set_option maxHeartbeats 8000000 in
theorem sMod10_any (s : Tr) (hs : AllOk s) (ls : (canT s).length ≤ 199) (A : Option Addr) (ca : Nat) (w : World) (hA : w.ownsRow 0 62 6 (.slice A (canT s).length ca) (canT s).length (nds (canT s))) :
    Calls Tryd.prog 63 #[.int .i64 10, .slice A (canT s).length ca, .slice none 0 0] w fun e w' => ∃ A' c', e = .returned (.slice A' (oL (sModO 10 s noT)).length c') ∧ w'.ownsRow 0 62 6 (.slice A' (oL (sModO 10 s noT)).length c') (oL (sModO 10 s noT)).length (nds (oL (sModO 10 s noT))) ∧ Below w.heap.size w w' := by
  have HA := Lib.hid hA
  clear hA
  by_cases hs2 : topT s = 2
  · have HR : Hid (oL (sModO 10 s noT) = canT s) := Lib.hid (by simp [sModO, boxOp, oL, hs2])
    rw [HR.out]
    have es2 : (topT s == 2) = true := by simpa using hs2
    have HT1 := Lib.hid (top_any (canT s) A (canT s).length ca w (Reads.of_own HA.out) (canT_ne s) (by unfold maxLen; omega))
    rw [topF_can hs] at HT1
    clear HR hs2 hs
    generalize topT s = ts at *
    generalize canT s = la at *
    have HBZ : Hid (Below w.heap.size w w) := Lib.hid (Below.refl _ _)
    go_enter Tryd.func63, Tryd.ntmps63
    go_wp2_with fail
    refine (HT1.out).mono ?_
    rintro r w1 ⟨rfl, rfl⟩
    go_wp2
    go_ret
    exact ⟨A, ca, rfl, own_keep1 HA.out (fun g hg => HBZ.out.block g (HA.out.lt g hg).2), HBZ.out⟩
  · have HR : Hid (oL (sModO 10 s noT) = []) := Lib.hid (by simp [sModO, boxOp, oL, hs2])
    rw [HR.out]
    have es2 : (topT s == 2) = false := by simpa using hs2
    have HT1 := Lib.hid (top_any (canT s) A (canT s).length ca w (Reads.of_own HA.out) (canT_ne s) (by unfold maxLen; omega))
    rw [topF_can hs] at HT1
    clear HR hs2 hs
    generalize topT s = ts at *
    generalize canT s = la at *
    have HBZ : Hid (Below w.heap.size w w) := Lib.hid (Below.refl _ _)
    go_enter Tryd.func63, Tryd.ntmps63
    go_wp2_with fail
    refine (HT1.out).mono ?_
    rintro r w1 ⟨rfl, rfl⟩
    go_wp2
    go_ret
    exact ⟨none, 0, rfl, World.ownsRow_nil _ _ _ _, HBZ.out⟩
set_option maxHeartbeats 8000000 in
theorem sMod13_any (s t : Tr) (hs : AllOk s) (ht : AllOk t) (ls : (canT s).length ≤ 199) (lt : (canT t).length ≤ 199) (A B : Option Addr) (ca cb : Nat) (w : World) (hA : w.ownsRow 0 62 6 (.slice A (canT s).length ca) (canT s).length (nds (canT s))) (hB : w.ownsRow 0 62 6 (.slice B (canT t).length cb) (canT t).length (nds (canT t))) :
    Calls Tryd.prog 63 #[.int .i64 13, .slice A (canT s).length ca, .slice B (canT t).length cb] w fun e w' => ∃ A' c', e = .returned (.slice A' (oL (sModO 13 s t)).length c') ∧ w'.ownsRow 0 62 6 (.slice A' (oL (sModO 13 s t)).length c') (oL (sModO 13 s t)).length (nds (oL (sModO 13 s t))) ∧ Below w.heap.size w w' := by
  have HA := Lib.hid hA
  have HB := Lib.hid hB
  clear hA hB
  by_cases hs2 : topT s = 2
  · have HR : Hid (oL (sModO 13 s t) = canT (cT 1)) := Lib.hid (by simp [sModO, boxOp, oL, hs2])
    rw [HR.out]
    have HK := Lib.hid (fun (W : World) (_ : Below w.heap.size w W) => rTrue_own8 W)
    have es2 : (topT s == 2) = true := by simpa using hs2
    have HT1 := Lib.hid (top_any (canT s) A (canT s).length ca w (Reads.of_own HA.out) (canT_ne s) (by unfold maxLen; omega))
    rw [topF_can hs] at HT1
    have HT2 := Lib.hid (top_any (canT t) B (canT t).length cb w (Reads.of_own HB.out) (canT_ne t) (by unfold maxLen; omega))
    rw [topF_can ht] at HT2
    clear HR hs2 hs ht
    generalize topT s = ts at *
    generalize topT t = tt at *
    generalize canT (cT 1) = ns at *
    generalize canT s = la at *
    generalize canT t = lb at *
    have HBZ : Hid (Below w.heap.size w w) := Lib.hid (Below.refl _ _)
    go_enter Tryd.func63, Tryd.ntmps63
    go_wp2_with fail
    refine (HT1.out).mono ?_
    rintro r w1 ⟨rfl, rfl⟩
    go_wp2_with fail
    refine (HK.out w HBZ.out).mono ?_
    rintro r wz ⟨A', c', rfl, ho, hb⟩
    have HO := Lib.hid ho
    have HBz := Lib.hid (HBZ.out.trans (hb.mono HBZ.out.size))
    clear ho hb
    go_wp2
    go_ret
    exact ⟨A', c', rfl, HO.out, HBz.out⟩
  · by_cases ht1 : topT t = 1
    · have HR : Hid (oL (sModO 13 s t) = canT (cT 1)) := Lib.hid (by simp [sModO, boxOp, oL, hs2, ht1])
      rw [HR.out]
      have HK := Lib.hid (fun (W : World) (_ : Below w.heap.size w W) => rTrue_own8 W)
      have es2 : (topT s == 2) = false := by simpa using hs2
      have et1 : (topT t == 1) = true := by simpa using ht1
      have HT1 := Lib.hid (top_any (canT s) A (canT s).length ca w (Reads.of_own HA.out) (canT_ne s) (by unfold maxLen; omega))
      rw [topF_can hs] at HT1
      have HT2 := Lib.hid (top_any (canT t) B (canT t).length cb w (Reads.of_own HB.out) (canT_ne t) (by unfold maxLen; omega))
      rw [topF_can ht] at HT2
      clear HR hs2 ht1 hs ht
      generalize topT s = ts at *
      generalize topT t = tt at *
      generalize canT (cT 1) = ns at *
      generalize canT s = la at *
      generalize canT t = lb at *
      have HBZ : Hid (Below w.heap.size w w) := Lib.hid (Below.refl _ _)
      go_enter Tryd.func63, Tryd.ntmps63
      go_wp2_with fail
      refine (HT1.out).mono ?_
      rintro r w1 ⟨rfl, rfl⟩
      go_wp2_with fail
      refine (HT2.out).mono ?_
      rintro r w1 ⟨rfl, rfl⟩
      go_wp2_with fail
      refine (HK.out w HBZ.out).mono ?_
      rintro r wz ⟨A', c', rfl, ho, hb⟩
      have HO := Lib.hid ho
      have HBz := Lib.hid (HBZ.out.trans (hb.mono HBZ.out.size))
      clear ho hb
      go_wp2
      go_ret
      exact ⟨A', c', rfl, HO.out, HBz.out⟩
    · have HR : Hid (oL (sModO 13 s t) = []) := Lib.hid (by simp [sModO, boxOp, oL, hs2, ht1])
      rw [HR.out]
      have es2 : (topT s == 2) = false := by simpa using hs2
      have et1 : (topT t == 1) = false := by simpa using ht1
      have HT1 := Lib.hid (top_any (canT s) A (canT s).length ca w (Reads.of_own HA.out) (canT_ne s) (by unfold maxLen; omega))
      rw [topF_can hs] at HT1
      have HT2 := Lib.hid (top_any (canT t) B (canT t).length cb w (Reads.of_own HB.out) (canT_ne t) (by unfold maxLen; omega))
      rw [topF_can ht] at HT2
      clear HR hs2 ht1 hs ht
      generalize topT s = ts at *
      generalize topT t = tt at *
      generalize canT s = la at *
      generalize canT t = lb at *
      have HBZ : Hid (Below w.heap.size w w) := Lib.hid (Below.refl _ _)
      go_enter Tryd.func63, Tryd.ntmps63
      go_wp2_with fail
      refine (HT1.out).mono ?_
      rintro r w1 ⟨rfl, rfl⟩
      go_wp2_with fail
      refine (HT2.out).mono ?_
      rintro r w1 ⟨rfl, rfl⟩
      go_wp2
      go_ret
      exact ⟨none, 0, rfl, World.ownsRow_nil _ _ _ _, HBZ.out⟩
set_option maxHeartbeats 8000000 in
theorem sMod14_any (s t : Tr) (hs : AllOk s) (ht : AllOk t) (ls : (canT s).length ≤ 199) (lt : (canT t).length ≤ 199) (A B : Option Addr) (ca cb : Nat) (w : World) (hA : w.ownsRow 0 62 6 (.slice A (canT s).length ca) (canT s).length (nds (canT s))) (hB : w.ownsRow 0 62 6 (.slice B (canT t).length cb) (canT t).length (nds (canT t))) :
    Calls Tryd.prog 63 #[.int .i64 14, .slice A (canT s).length ca, .slice B (canT t).length cb] w fun e w' => ∃ A' c', e = .returned (.slice A' (oL (sModO 14 s t)).length c') ∧ w'.ownsRow 0 62 6 (.slice A' (oL (sModO 14 s t)).length c') (oL (sModO 14 s t)).length (nds (oL (sModO 14 s t))) ∧ Below w.heap.size w w' := by
  have HA := Lib.hid hA
  have HB := Lib.hid hB
  clear hA hB
  by_cases hs2 : topT s = 2
  · have HR : Hid (oL (sModO 14 s t) = canT (cT 1)) := Lib.hid (by simp [sModO, boxOp, oL, hs2])
    rw [HR.out]
    have HK := Lib.hid (fun (W : World) (_ : Below w.heap.size w W) => rTrue_own8 W)
    have es2 : (topT s == 2) = true := by simpa using hs2
    have HT1 := Lib.hid (top_any (canT s) A (canT s).length ca w (Reads.of_own HA.out) (canT_ne s) (by unfold maxLen; omega))
    rw [topF_can hs] at HT1
    have HT2 := Lib.hid (top_any (canT t) B (canT t).length cb w (Reads.of_own HB.out) (canT_ne t) (by unfold maxLen; omega))
    rw [topF_can ht] at HT2
    clear HR hs2 hs ht
    generalize topT s = ts at *
    generalize topT t = tt at *
    generalize canT (cT 1) = ns at *
    generalize canT s = la at *
    generalize canT t = lb at *
    have HBZ : Hid (Below w.heap.size w w) := Lib.hid (Below.refl _ _)
    go_enter Tryd.func63, Tryd.ntmps63
    go_wp2_with fail
    refine (HT1.out).mono ?_
    rintro r w1 ⟨rfl, rfl⟩
    go_wp2_with fail
    refine (HK.out w HBZ.out).mono ?_
    rintro r wz ⟨A', c', rfl, ho, hb⟩
    have HO := Lib.hid ho
    have HBz := Lib.hid (HBZ.out.trans (hb.mono HBZ.out.size))
    clear ho hb
    go_wp2
    go_ret
    exact ⟨A', c', rfl, HO.out, HBz.out⟩
  · by_cases ht1 : topT t = 1
    · have HR : Hid (oL (sModO 14 s t) = canT (cT 1)) := Lib.hid (by simp [sModO, boxOp, oL, hs2, ht1])
      rw [HR.out]
      have HK := Lib.hid (fun (W : World) (_ : Below w.heap.size w W) => rTrue_own8 W)
      have es2 : (topT s == 2) = false := by simpa using hs2
      have et1 : (topT t == 1) = true := by simpa using ht1
      have HT1 := Lib.hid (top_any (canT s) A (canT s).length ca w (Reads.of_own HA.out) (canT_ne s) (by unfold maxLen; omega))
      rw [topF_can hs] at HT1
      have HT2 := Lib.hid (top_any (canT t) B (canT t).length cb w (Reads.of_own HB.out) (canT_ne t) (by unfold maxLen; omega))
      rw [topF_can ht] at HT2
      clear HR hs2 ht1 hs ht
      generalize topT s = ts at *
      generalize topT t = tt at *
      generalize canT (cT 1) = ns at *
      generalize canT s = la at *
      generalize canT t = lb at *
      have HBZ : Hid (Below w.heap.size w w) := Lib.hid (Below.refl _ _)
      go_enter Tryd.func63, Tryd.ntmps63
      go_wp2_with fail
      refine (HT1.out).mono ?_
      rintro r w1 ⟨rfl, rfl⟩
      go_wp2_with fail
      refine (HT2.out).mono ?_
      rintro r w1 ⟨rfl, rfl⟩
      go_wp2_with fail
      refine (HK.out w HBZ.out).mono ?_
      rintro r wz ⟨A', c', rfl, ho, hb⟩
      have HO := Lib.hid ho
      have HBz := Lib.hid (HBZ.out.trans (hb.mono HBZ.out.size))
      clear ho hb
      go_wp2
      go_ret
      exact ⟨A', c', rfl, HO.out, HBz.out⟩
    · have HR : Hid (oL (sModO 14 s t) = []) := Lib.hid (by simp [sModO, boxOp, oL, hs2, ht1])
      rw [HR.out]
      have es2 : (topT s == 2) = false := by simpa using hs2
      have et1 : (topT t == 1) = false := by simpa using ht1
      have HT1 := Lib.hid (top_any (canT s) A (canT s).length ca w (Reads.of_own HA.out) (canT_ne s) (by unfold maxLen; omega))
      rw [topF_can hs] at HT1
      have HT2 := Lib.hid (top_any (canT t) B (canT t).length cb w (Reads.of_own HB.out) (canT_ne t) (by unfold maxLen; omega))
      rw [topF_can ht] at HT2
      clear HR hs2 ht1 hs ht
      generalize topT s = ts at *
      generalize topT t = tt at *
      generalize canT s = la at *
      generalize canT t = lb at *
      have HBZ : Hid (Below w.heap.size w w) := Lib.hid (Below.refl _ _)
      go_enter Tryd.func63, Tryd.ntmps63
      go_wp2_with fail
      refine (HT1.out).mono ?_
      rintro r w1 ⟨rfl, rfl⟩
      go_wp2_with fail
      refine (HT2.out).mono ?_
      rintro r w1 ⟨rfl, rfl⟩
      go_wp2
      go_ret
      exact ⟨none, 0, rfl, World.ownsRow_nil _ _ _ _, HBZ.out⟩
set_option maxHeartbeats 8000000 in
theorem sMod16_any (s t : Tr) (hs : AllOk s) (ht : AllOk t) (ls : (canT s).length ≤ 199) (lt : (canT t).length ≤ 199) (A B : Option Addr) (ca cb : Nat) (w : World) (hA : w.ownsRow 0 62 6 (.slice A (canT s).length ca) (canT s).length (nds (canT s))) (hB : w.ownsRow 0 62 6 (.slice B (canT t).length cb) (canT t).length (nds (canT t))) :
    Calls Tryd.prog 63 #[.int .i64 16, .slice A (canT s).length ca, .slice B (canT t).length cb] w fun e w' => ∃ A' c', e = .returned (.slice A' (oL (sModO 16 s t)).length c') ∧ w'.ownsRow 0 62 6 (.slice A' (oL (sModO 16 s t)).length c') (oL (sModO 16 s t)).length (nds (oL (sModO 16 s t))) ∧ Below w.heap.size w w' := by
  have HA := Lib.hid hA
  have HB := Lib.hid hB
  clear hA hB
  by_cases hs2 : topT s = 2
  · have HR : Hid (oL (sModO 16 s t) = canT (cT 1)) := Lib.hid (by simp [sModO, boxOp, oL, hs2])
    rw [HR.out]
    have HK := Lib.hid (fun (W : World) (_ : Below w.heap.size w W) => rTrue_own8 W)
    have es2 : (topT s == 2) = true := by simpa using hs2
    have HT1 := Lib.hid (top_any (canT s) A (canT s).length ca w (Reads.of_own HA.out) (canT_ne s) (by unfold maxLen; omega))
    rw [topF_can hs] at HT1
    have HT2 := Lib.hid (top_any (canT t) B (canT t).length cb w (Reads.of_own HB.out) (canT_ne t) (by unfold maxLen; omega))
    rw [topF_can ht] at HT2
    clear HR hs2 hs ht
    generalize topT s = ts at *
    generalize topT t = tt at *
    generalize canT (cT 1) = ns at *
    generalize canT s = la at *
    generalize canT t = lb at *
    have HBZ : Hid (Below w.heap.size w w) := Lib.hid (Below.refl _ _)
    go_enter Tryd.func63, Tryd.ntmps63
    go_wp2_with fail
    refine (HT1.out).mono ?_
    rintro r w1 ⟨rfl, rfl⟩
    go_wp2_with fail
    refine (HK.out w HBZ.out).mono ?_
    rintro r wz ⟨A', c', rfl, ho, hb⟩
    have HO := Lib.hid ho
    have HBz := Lib.hid (HBZ.out.trans (hb.mono HBZ.out.size))
    clear ho hb
    go_wp2
    go_ret
    exact ⟨A', c', rfl, HO.out, HBz.out⟩
  · by_cases ht1 : topT t = 1
    · have HR : Hid (oL (sModO 16 s t) = canT (cT 1)) := Lib.hid (by simp [sModO, boxOp, oL, hs2, ht1])
      rw [HR.out]
      have HK := Lib.hid (fun (W : World) (_ : Below w.heap.size w W) => rTrue_own8 W)
      have es2 : (topT s == 2) = false := by simpa using hs2
      have et1 : (topT t == 1) = true := by simpa using ht1
      have HT1 := Lib.hid (top_any (canT s) A (canT s).length ca w (Reads.of_own HA.out) (canT_ne s) (by unfold maxLen; omega))
      rw [topF_can hs] at HT1
      have HT2 := Lib.hid (top_any (canT t) B (canT t).length cb w (Reads.of_own HB.out) (canT_ne t) (by unfold maxLen; omega))
      rw [topF_can ht] at HT2
      clear HR hs2 ht1 hs ht
      generalize topT s = ts at *
      generalize topT t = tt at *
      generalize canT (cT 1) = ns at *
      generalize canT s = la at *
      generalize canT t = lb at *
      have HBZ : Hid (Below w.heap.size w w) := Lib.hid (Below.refl _ _)
      go_enter Tryd.func63, Tryd.ntmps63
      go_wp2_with fail
      refine (HT1.out).mono ?_
      rintro r w1 ⟨rfl, rfl⟩
      go_wp2_with fail
      refine (HT2.out).mono ?_
      rintro r w1 ⟨rfl, rfl⟩
      go_wp2_with fail
      refine (HK.out w HBZ.out).mono ?_
      rintro r wz ⟨A', c', rfl, ho, hb⟩
      have HO := Lib.hid ho
      have HBz := Lib.hid (HBZ.out.trans (hb.mono HBZ.out.size))
      clear ho hb
      go_wp2
      go_ret
      exact ⟨A', c', rfl, HO.out, HBz.out⟩
    · by_cases hs1 : topT s = 1
      · have HR : Hid (oL (sModO 16 s t) = canT t) := Lib.hid (by simp [sModO, boxOp, oL, ht1, hs1])
        rw [HR.out]
        have es2 : (topT s == 2) = false := by simpa using hs2
        have et1 : (topT t == 1) = false := by simpa using ht1
        have es1 : (topT s == 1) = true := by simpa using hs1
        have HT1 := Lib.hid (top_any (canT s) A (canT s).length ca w (Reads.of_own HA.out) (canT_ne s) (by unfold maxLen; omega))
        rw [topF_can hs] at HT1
        have HT2 := Lib.hid (top_any (canT t) B (canT t).length cb w (Reads.of_own HB.out) (canT_ne t) (by unfold maxLen; omega))
        rw [topF_can ht] at HT2
        clear HR hs2 ht1 hs1 hs ht
        generalize topT s = ts at *
        generalize topT t = tt at *
        generalize canT s = la at *
        generalize canT t = lb at *
        have HBZ : Hid (Below w.heap.size w w) := Lib.hid (Below.refl _ _)
        go_enter Tryd.func63, Tryd.ntmps63
        go_wp2_with fail
        refine (HT1.out).mono ?_
        rintro r w1 ⟨rfl, rfl⟩
        go_wp2_with fail
        refine (HT2.out).mono ?_
        rintro r w1 ⟨rfl, rfl⟩
        go_wp2_with fail
        refine (HT1.out).mono ?_
        rintro r w1 ⟨rfl, rfl⟩
        go_wp2
        go_ret
        exact ⟨B, cb, rfl, own_keep1 HB.out (fun g hg => HBZ.out.block g (HB.out.lt g hg).2), HBZ.out⟩
      · have HR : Hid (oL (sModO 16 s t) = []) := Lib.hid (by simp [sModO, boxOp, oL, hs2, ht1, hs1])
        rw [HR.out]
        have es2 : (topT s == 2) = false := by simpa using hs2
        have et1 : (topT t == 1) = false := by simpa using ht1
        have es1 : (topT s == 1) = false := by simpa using hs1
        have HT1 := Lib.hid (top_any (canT s) A (canT s).length ca w (Reads.of_own HA.out) (canT_ne s) (by unfold maxLen; omega))
        rw [topF_can hs] at HT1
        have HT2 := Lib.hid (top_any (canT t) B (canT t).length cb w (Reads.of_own HB.out) (canT_ne t) (by unfold maxLen; omega))
        rw [topF_can ht] at HT2
        clear HR hs2 ht1 hs1 hs ht
        generalize topT s = ts at *
        generalize topT t = tt at *
        generalize canT s = la at *
        generalize canT t = lb at *
        have HBZ : Hid (Below w.heap.size w w) := Lib.hid (Below.refl _ _)
        go_enter Tryd.func63, Tryd.ntmps63
        go_wp2_with fail
        refine (HT1.out).mono ?_
        rintro r w1 ⟨rfl, rfl⟩
        go_wp2_with fail
        refine (HT2.out).mono ?_
        rintro r w1 ⟨rfl, rfl⟩
        go_wp2_with fail
        refine (HT1.out).mono ?_
        rintro r w1 ⟨rfl, rfl⟩
        go_wp2
        go_ret
        exact ⟨none, 0, rfl, World.ownsRow_nil _ _ _ _, HBZ.out⟩
theorem sModNil_any (op : Int) (hop : op ∉ ([4, 9, 11, 12, 15, 17, 10, 13, 14, 16] : List Int)) (A B : Option Addr) (na ca nb cb : Nat) (w : World) :
    Calls Tryd.prog 63 #[.int .i64 op, .slice A na ca, .slice B nb cb] w fun e w' => e = .returned (.slice none 0 0) ∧ w = w' := by
  have e4 : (op == 4) = false := by rw [beq_eq_false_iff_ne]; intro h; exact hop (by rw [h]; decide)
  have e9 : (op == 9) = false := by rw [beq_eq_false_iff_ne]; intro h; exact hop (by rw [h]; decide)
  have e11 : (op == 11) = false := by rw [beq_eq_false_iff_ne]; intro h; exact hop (by rw [h]; decide)
  have e12 : (op == 12) = false := by rw [beq_eq_false_iff_ne]; intro h; exact hop (by rw [h]; decide)
  have e15 : (op == 15) = false := by rw [beq_eq_false_iff_ne]; intro h; exact hop (by rw [h]; decide)
  have e17 : (op == 17) = false := by rw [beq_eq_false_iff_ne]; intro h; exact hop (by rw [h]; decide)
  have e10 : (op == 10) = false := by rw [beq_eq_false_iff_ne]; intro h; exact hop (by rw [h]; decide)
  have e13 : (op == 13) = false := by rw [beq_eq_false_iff_ne]; intro h; exact hop (by rw [h]; decide)
  have e14 : (op == 14) = false := by rw [beq_eq_false_iff_ne]; intro h; exact hop (by rw [h]; decide)
  have e16 : (op == 16) = false := by rw [beq_eq_false_iff_ne]; intro h; exact hop (by rw [h]; decide)
  clear hop
  go_enter Tryd.func63, Tryd.ntmps63
  go_wp2
  go_ret
  exact ⟨rfl, rfl⟩
theorem sModO_nil (op : Int) (hop : op ∉ ([4, 9, 11, 12, 15, 17, 10, 13, 14, 16] : List Int)) (s t : Tr) : sModO op s t = none := by
  unfold sModO boxOp
  have e4 : op ≠ 4 := by intro h; exact hop (by rw [h]; decide)
  have e9 : op ≠ 9 := by intro h; exact hop (by rw [h]; decide)
  have e11 : op ≠ 11 := by intro h; exact hop (by rw [h]; decide)
  have e12 : op ≠ 12 := by intro h; exact hop (by rw [h]; decide)
  have e15 : op ≠ 15 := by intro h; exact hop (by rw [h]; decide)
  have e17 : op ≠ 17 := by intro h; exact hop (by rw [h]; decide)
  have e10 : op ≠ 10 := by intro h; exact hop (by rw [h]; decide)
  have e13 : op ≠ 13 := by intro h; exact hop (by rw [h]; decide)
  have e14 : op ≠ 14 := by intro h; exact hop (by rw [h]; decide)
  have e16 : op ≠ 16 := by intro h; exact hop (by rw [h]; decide)
  simp [e4, e9, e11, e12, e15, e17, e10, e13, e14, e16]
/-- simpleModal of a node with one operand -/
theorem sModU_any (op : Int) (h1 : usesX op = true) (h2 : usesY op = false) (s : Tr) (hs : AllOk s) (ls : (canT s).length ≤ 199) (A : Option Addr) (ca : Nat) (w : World) (hA : w.ownsRow 0 62 6 (.slice A (canT s).length ca) (canT s).length (nds (canT s))) :
    Calls Tryd.prog 63 #[.int .i64 op, .slice A (canT s).length ca, .slice none 0 0] w fun e w' => ∃ A' c', e = .returned (.slice A' (oL (sModO op s noT)).length c') ∧ w'.ownsRow 0 62 6 (.slice A' (oL (sModO op s noT)).length c') (oL (sModO op s noT)).length (nds (oL (sModO op s noT))) ∧ Below w.heap.size w w' := by
  by_cases hop : op ∈ ([4, 9, 11, 12, 15, 17, 10, 13, 14, 16] : List Int)
  · simp only [List.mem_cons, List.not_mem_nil, or_false] at hop
    rcases hop with rfl | rfl | rfl | rfl | rfl | rfl | rfl | rfl | rfl | rfl
    · exact sMod4_any s hs ls A ca w hA
    · exact sMod9_any s hs ls A ca w hA
    · exact sMod11_any s hs ls A ca w hA
    · exact sMod12_any s hs ls A ca w hA
    · exact sMod15_any s hs ls A ca w hA
    · exact sMod17_any s hs ls A ca w hA
    · exact sMod10_any s hs ls A ca w hA
    · cases h2
    · cases h2
    · cases h2
  · rw [sModO_nil op hop]
    refine (sModNil_any op hop A none _ ca 0 0 w).mono ?_
    rintro e w' ⟨rfl, rfl⟩
    exact ⟨none, 0, rfl, World.ownsRow_nil _ _ _ _, Below.refl _ _⟩
/-- simpleModal of a node with two operands -/
theorem sModB_any (op : Int) (h2 : usesY op = true) (s t : Tr) (hs : AllOk s) (ht : AllOk t) (ls : (canT s).length ≤ 199) (lt : (canT t).length ≤ 199) (A B : Option Addr) (ca cb : Nat) (w : World) (hA : w.ownsRow 0 62 6 (.slice A (canT s).length ca) (canT s).length (nds (canT s))) (hB : w.ownsRow 0 62 6 (.slice B (canT t).length cb) (canT t).length (nds (canT t))) :
    Calls Tryd.prog 63 #[.int .i64 op, .slice A (canT s).length ca, .slice B (canT t).length cb] w fun e w' => ∃ A' c', e = .returned (.slice A' (oL (sModO op s t)).length c') ∧ w'.ownsRow 0 62 6 (.slice A' (oL (sModO op s t)).length c') (oL (sModO op s t)).length (nds (oL (sModO op s t))) ∧ Below w.heap.size w w' := by
  by_cases hop : op ∈ ([4, 9, 11, 12, 15, 17, 10, 13, 14, 16] : List Int)
  · simp only [List.mem_cons, List.not_mem_nil, or_false] at hop
    rcases hop with rfl | rfl | rfl | rfl | rfl | rfl | rfl | rfl | rfl | rfl
    · cases h2
    · cases h2
    · cases h2
    · cases h2
    · cases h2
    · cases h2
    · cases h2
    · exact sMod13_any s t hs ht ls lt A B ca cb w hA hB
    · exact sMod14_any s t hs ht ls lt A B ca cb w hA hB
    · exact sMod16_any s t hs ht ls lt A B ca cb w hA hB
  · rw [sModO_nil op hop]
    refine (sModNil_any op hop A B _ ca _ cb w).mono ?_
    rintro e w' ⟨rfl, rfl⟩
    exact ⟨none, 0, rfl, World.ownsRow_nil _ _ _ _, Below.refl _ _⟩
end Go.Proofs.YtkkkomkljpolbaaDoor
