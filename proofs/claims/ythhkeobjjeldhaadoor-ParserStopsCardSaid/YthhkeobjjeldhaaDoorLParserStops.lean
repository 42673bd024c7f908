/- ParserStops (P6.4): an error of syntax or of a name depends on the tokens up to it alone: with other tokens behind it the same error is found at the same place. Conditions: the package variables that the row lists hold what the program's text lays in them. -/
import Derived.Test.YthhkeobjjeldhaaDoorJl
import Derived.Test.YthhkeobjjeldhaaDoorJo
import Derived.Test.YthhkeobjjeldhaaDoorJq
import Derived.Test.YthhkeobjjeldhaaDoorJr
import Derived.Deep.RegionHeld3
namespace Go.Proofs.YthhkeobjjeldhaaDoor.parserStops
open Go.ChangeShapes Go.WideShapes Go.ChangeAt Go.RowKit Go.Proofs.YthhkeobjjeldhaaDoor Go.Proofs.YthhkeobjjeldhaaDoor.par Go.Proofs.Ws Go.Maps
open Go.ChangeMaps (open_string shut_string)
theorem cut0_run (t : ByteArray) (p n : Nat) (h : p + n ≤ t.size) (W : World) : (Instr.slice 9 (.string t) none (some (.int .i64 ((p : Int) + (n : Int)))) none).run Tryd.prog W = .ok (.string (t.extract 0 (p + n))) W := by
  have h1 := run_slice_string_to_if (P := Tryd.prog) W 9 t .i64 ((p : Int) + (n : Int)) Tryd.underlying9
  rw [h1, if_pos ⟨by omega, by omega⟩, show ((p : Int) + (n : Int)).toNat = p + n from by omega]
set_option maxRecDepth 100000 in
set_option maxHeartbeats 4000000 in
theorem walk_long (a b : ByteArray) (w : World) (hl : 300 < a.size ∨ 300 < b.size) (ha : a.size ≤ maxLen) (hb' : b.size ≤ maxLen) (hE : EnvS w) :
    Calls Tryd.prog 7 #[.string a, .string b] w fun e w' => e = .returned (.bool true) ∧ Below w.heap.size w w' := by
  unfold maxLen at ha hb'
  by_cases h1 : 300 < a.size
  · have d1 : decide ((300 : Int) < (a.size : Int)) = true := decide_eq_true (by omega)
    have d2 : decide (300 < a.size) = true := decide_eq_true h1
    clear hl h1
    have HE : Hid (∀ W, Below w.heap.size w W → EnvS W) := Lib.hid (fun W h => hE.below h)
    clear hE
    go_enter Tryd.func7, Tryd.ntmps7
    go_wp2_with fail
    refine (kExample_any w).mono ?_
    rintro e w1 ⟨g0, g1, g2, rfl, hS, hb⟩
    have HX := Lib.hid (@boxed w1 (some ⟨g0, 0, none⟩) (some ⟨g1, 0, none⟩) (some ⟨g2, 0, none⟩) 2 2 3 3 1 1 31)
    have HG : Hid (∀ W, Below (w1.heap.size + 1) (w1.alloc (.cells #[.slice (some ⟨g0, 0, none⟩) 2 2, .slice (some ⟨g1, 0, none⟩) 3 3, .slice (some ⟨g2, 0, none⟩) 1 1] 31)) W → EnvS W ∧ SigR W W.heap.size (.agg #[.slice (some ⟨g0, 0, none⟩) 2 2, .slice (some ⟨g1, 0, none⟩) 3 3, .slice (some ⟨g2, 0, none⟩) 1 1]) exA exF exX ∧ Below w.heap.size w W ∧ w1.heap.size + 1 ≤ W.heap.size) := Lib.hid (fun W hW => by
      have h1 : Below w1.heap.size w1 W := ((Below.refl _ w1).alloc (Nat.le_refl _) _).trans (hW.mono (by omega))
      have h2 : Below w.heap.size w W := hb.trans (h1.mono hb.size)
      exact ⟨HE.out W h2, hS.on h1, h2, by have := hW.size; simpa using this⟩)
    have HB0 := Lib.hid (Below.refl (w1.heap.size + 1) (w1.alloc (.cells #[.slice (some ⟨g0, 0, none⟩) 2 2, .slice (some ⟨g1, 0, none⟩) 3 3, .slice (some ⟨g2, 0, none⟩) 1 1] 31)))
    clear hS hb HE
    go_wp2_with fail
    refine (awake_any _ (HG.out _ HB0.out).1).mono ?_
    rintro e v9 ⟨rfl, hb⟩
    have HB9 := Lib.hid (HB0.out.trans (hb.mono (HG.out _ HB0.out).2.2.2))
    clear hb
    go_wp2
    go_ret
    exact ⟨rfl, (HG.out _ HB9.out).2.2.1⟩
  · have h2 : 300 < b.size := hl.resolve_left h1
    have d1 : decide ((300 : Int) < (a.size : Int)) = false := decide_eq_false (by omega)
    have d2 : decide (300 < a.size) = false := decide_eq_false h1
    have d3 : decide ((300 : Int) < (b.size : Int)) = true := decide_eq_true (by omega)
    have d4 : decide (300 < b.size) = true := decide_eq_true h2
    clear hl h1 h2
    have HE : Hid (∀ W, Below w.heap.size w W → EnvS W) := Lib.hid (fun W h => hE.below h)
    clear hE
    go_enter Tryd.func7, Tryd.ntmps7
    go_wp2_with fail
    refine (kExample_any w).mono ?_
    rintro e w1 ⟨g0, g1, g2, rfl, hS, hb⟩
    have HX := Lib.hid (@boxed w1 (some ⟨g0, 0, none⟩) (some ⟨g1, 0, none⟩) (some ⟨g2, 0, none⟩) 2 2 3 3 1 1 31)
    have HG : Hid (∀ W, Below (w1.heap.size + 1) (w1.alloc (.cells #[.slice (some ⟨g0, 0, none⟩) 2 2, .slice (some ⟨g1, 0, none⟩) 3 3, .slice (some ⟨g2, 0, none⟩) 1 1] 31)) W → EnvS W ∧ SigR W W.heap.size (.agg #[.slice (some ⟨g0, 0, none⟩) 2 2, .slice (some ⟨g1, 0, none⟩) 3 3, .slice (some ⟨g2, 0, none⟩) 1 1]) exA exF exX ∧ Below w.heap.size w W ∧ w1.heap.size + 1 ≤ W.heap.size) := Lib.hid (fun W hW => by
      have h1 : Below w1.heap.size w1 W := ((Below.refl _ w1).alloc (Nat.le_refl _) _).trans (hW.mono (by omega))
      have h2 : Below w.heap.size w W := hb.trans (h1.mono hb.size)
      exact ⟨HE.out W h2, hS.on h1, h2, by have := hW.size; simpa using this⟩)
    have HB0 := Lib.hid (Below.refl (w1.heap.size + 1) (w1.alloc (.cells #[.slice (some ⟨g0, 0, none⟩) 2 2, .slice (some ⟨g1, 0, none⟩) 3 3, .slice (some ⟨g2, 0, none⟩) 1 1] 31)))
    clear hS hb HE
    go_wp2_with fail
    refine (awake_any _ (HG.out _ HB0.out).1).mono ?_
    rintro e v9 ⟨rfl, hb⟩
    have HB9 := Lib.hid (HB0.out.trans (hb.mono (HG.out _ HB0.out).2.2.2))
    clear hb
    go_wp2
    go_ret
    exact ⟨rfl, (HG.out _ HB9.out).2.2.1⟩
set_option maxRecDepth 100000 in
set_option maxHeartbeats 8000000 in
theorem walk_no (t b : ByteArray) (w : World) (ha : t.size ≤ 300) (hb' : b.size ≤ 300) (hn : (tokV t).err ≠ 0 ∨ (tokV b).err ≠ 0 ∨ ((parseV exA exF exX t).err ≠ 4 ∧ (parseV exA exF exX t).err ≠ 5)) (hE : EnvS w) :
    Calls Tryd.prog 7 #[.string t, .string b] w fun e w' => e = .returned (.bool true) ∧ Below w.heap.size w w' := by
  have d1 : decide ((300 : Int) < (t.size : Int)) = false := decide_eq_false (by omega)
  have d2 : decide (300 < t.size) = false := decide_eq_false (by omega)
  have d3 : decide ((300 : Int) < (b.size : Int)) = false := decide_eq_false (by omega)
  have d4 : decide (300 < b.size) = false := decide_eq_false (by omega)
  have HT1 := Lib.hid (fun W => kTokens_any t W (by unfold maxLen; omega))
  have HT2 := Lib.hid (fun W => kTokens_any b W (by unfold maxLen; omega))
  have HPA := Lib.hid (fun v0 v1 v2 W hS hE => kParse_own (some ⟨v0, 0, none⟩) 2 2 (some ⟨v1, 0, none⟩) 3 3 (some ⟨v2, 0, none⟩) 1 1 exA exF exX t W hS hE (by unfold maxLen; omega))
  generalize hTT : tokV t = TT at *
  generalize hTB : tokV b = TB at *
  generalize hPV : parseV exA exF exX t = PV at *
  clear hTT hTB hPV
  obtain ⟨tw, ta, tp, te⟩ := TT
  obtain ⟨bw, ba, bp, be⟩ := TB
  obtain ⟨l, po, er⟩ := PV
  dsimp only at HT1 HT2 HPA hn
  by_cases h1 : te = 0
  · by_cases h2 : be = 0
    · obtain ⟨n4, n5⟩ : er ≠ 4 ∧ er ≠ 5 := by
        rcases hn with h | h | h
        · exact absurd h1 h
        · exact absurd h2 h
        · exact h
      have m4 : (er != 4) = true := by rw [bne_iff_ne]; exact n4
      have m5 : (er != 5) = true := by rw [bne_iff_ne]; exact n5
      subst h1
      subst h2
      clear hn n4 n5
      have HE : Hid (∀ W, Below w.heap.size w W → EnvS W) := Lib.hid (fun W h => hE.below h)
      clear hE
      go_enter Tryd.func7, Tryd.ntmps7
      go_wp2_with fail
      refine (kExample_any w).mono ?_
      rintro e w1 ⟨g0, g1, g2, rfl, hS, hb⟩
      have HX := Lib.hid (@boxed w1 (some ⟨g0, 0, none⟩) (some ⟨g1, 0, none⟩) (some ⟨g2, 0, none⟩) 2 2 3 3 1 1 31)
      have HG : Hid (∀ W, Below (w1.heap.size + 1) (w1.alloc (.cells #[.slice (some ⟨g0, 0, none⟩) 2 2, .slice (some ⟨g1, 0, none⟩) 3 3, .slice (some ⟨g2, 0, none⟩) 1 1] 31)) W → EnvS W ∧ SigR W W.heap.size (.agg #[.slice (some ⟨g0, 0, none⟩) 2 2, .slice (some ⟨g1, 0, none⟩) 3 3, .slice (some ⟨g2, 0, none⟩) 1 1]) exA exF exX ∧ Below w.heap.size w W ∧ w1.heap.size + 1 ≤ W.heap.size) := Lib.hid (fun W hW => by
        have h1 : Below w1.heap.size w1 W := ((Below.refl _ w1).alloc (Nat.le_refl _) _).trans (hW.mono (by omega))
        have h2 : Below w.heap.size w W := hb.trans (h1.mono hb.size)
        exact ⟨HE.out W h2, hS.on h1, h2, by have := hW.size; simpa using this⟩)
      have HB0 := Lib.hid (Below.refl (w1.heap.size + 1) (w1.alloc (.cells #[.slice (some ⟨g0, 0, none⟩) 2 2, .slice (some ⟨g1, 0, none⟩) 3 3, .slice (some ⟨g2, 0, none⟩) 1 1] 31)))
      clear hS hb HE
      go_wp2_with fail
      refine (HT1.out _).mono ?_
      rintro e w3 ⟨A1, c1, A2, c2, rfl, hR1, hR2, hb⟩
      have HB3 := Lib.hid (HB0.out.trans (hb.mono (HG.out _ HB0.out).2.2.2))
      have HR1 := Lib.hid hR1
      have HR2 := Lib.hid hR2
      clear hb hR1 hR2 HT1 HB0
      go_wp2_with fail
      refine (HT2.out _).mono ?_
      rintro e w4 ⟨A3, c3, A4, c4, rfl, _, _, hb⟩
      have HB4 := Lib.hid (HB3.out.trans (hb.mono (HG.out _ HB3.out).2.2.2))
      have HR3 := Lib.hid ((HR1.out.below hb).more hb.size)
      have HR4 := Lib.hid ((HR2.out.below hb).more hb.size)
      clear hb HT2 HB3 HR1 HR2
      obtain ⟨q0, q1, q2⟩ := HX.out _ HB4.out
      go_wp2_with fail
      refine (HPA.out _ _ _ _ (HG.out _ HB4.out).2.1 (HG.out _ HB4.out).1).mono ?_
      rintro e w5 ⟨A5, c5, rfl, hO, hb⟩
      have HB5 := Lib.hid (HB4.out.trans (hb.mono (HG.out _ HB4.out).2.2.2))
      have HR5 := Lib.hid ((HR3.out.below hb).more hb.size)
      have HR6 := Lib.hid ((HR4.out.below hb).more hb.size)
      clear hO hb HPA q0 q1 q2 HB4 HR3 HR4
      go_wp2_with fail
      refine (awake_any _ (HG.out _ HB5.out).1).mono ?_
      rintro e v9 ⟨rfl, hb⟩
      have HB9 := Lib.hid (HB5.out.trans (hb.mono (HG.out _ HB5.out).2.2.2))
      clear hb
      go_wp2
      go_ret
      exact ⟨rfl, (HG.out _ HB9.out).2.2.1⟩
    · have m2 : (be != 0) = true := by rw [bne_iff_ne]; exact h2
      subst h1
      clear hn h2
      have HE : Hid (∀ W, Below w.heap.size w W → EnvS W) := Lib.hid (fun W h => hE.below h)
      clear hE
      go_enter Tryd.func7, Tryd.ntmps7
      go_wp2_with fail
      refine (kExample_any w).mono ?_
      rintro e w1 ⟨g0, g1, g2, rfl, hS, hb⟩
      have HX := Lib.hid (@boxed w1 (some ⟨g0, 0, none⟩) (some ⟨g1, 0, none⟩) (some ⟨g2, 0, none⟩) 2 2 3 3 1 1 31)
      have HG : Hid (∀ W, Below (w1.heap.size + 1) (w1.alloc (.cells #[.slice (some ⟨g0, 0, none⟩) 2 2, .slice (some ⟨g1, 0, none⟩) 3 3, .slice (some ⟨g2, 0, none⟩) 1 1] 31)) W → EnvS W ∧ SigR W W.heap.size (.agg #[.slice (some ⟨g0, 0, none⟩) 2 2, .slice (some ⟨g1, 0, none⟩) 3 3, .slice (some ⟨g2, 0, none⟩) 1 1]) exA exF exX ∧ Below w.heap.size w W ∧ w1.heap.size + 1 ≤ W.heap.size) := Lib.hid (fun W hW => by
        have h1 : Below w1.heap.size w1 W := ((Below.refl _ w1).alloc (Nat.le_refl _) _).trans (hW.mono (by omega))
        have h2 : Below w.heap.size w W := hb.trans (h1.mono hb.size)
        exact ⟨HE.out W h2, hS.on h1, h2, by have := hW.size; simpa using this⟩)
      have HB0 := Lib.hid (Below.refl (w1.heap.size + 1) (w1.alloc (.cells #[.slice (some ⟨g0, 0, none⟩) 2 2, .slice (some ⟨g1, 0, none⟩) 3 3, .slice (some ⟨g2, 0, none⟩) 1 1] 31)))
      clear hS hb HE
      go_wp2_with fail
      refine (HT1.out _).mono ?_
      rintro e w3 ⟨A1, c1, A2, c2, rfl, hR1, hR2, hb⟩
      have HB3 := Lib.hid (HB0.out.trans (hb.mono (HG.out _ HB0.out).2.2.2))
      have HR1 := Lib.hid hR1
      have HR2 := Lib.hid hR2
      clear hb hR1 hR2 HT1 HB0
      go_wp2_with fail
      refine (HT2.out _).mono ?_
      rintro e w4 ⟨A3, c3, A4, c4, rfl, _, _, hb⟩
      have HB4 := Lib.hid (HB3.out.trans (hb.mono (HG.out _ HB3.out).2.2.2))
      have HR3 := Lib.hid ((HR1.out.below hb).more hb.size)
      have HR4 := Lib.hid ((HR2.out.below hb).more hb.size)
      clear hb HT2 HB3 HR1 HR2
      obtain ⟨q0, q1, q2⟩ := HX.out _ HB4.out
      go_wp2_with fail
      refine (HPA.out _ _ _ _ (HG.out _ HB4.out).2.1 (HG.out _ HB4.out).1).mono ?_
      rintro e w5 ⟨A5, c5, rfl, hO, hb⟩
      have HB5 := Lib.hid (HB4.out.trans (hb.mono (HG.out _ HB4.out).2.2.2))
      have HR5 := Lib.hid ((HR3.out.below hb).more hb.size)
      have HR6 := Lib.hid ((HR4.out.below hb).more hb.size)
      clear hO hb HPA q0 q1 q2 HB4 HR3 HR4
      go_wp2_with fail
      refine (awake_any _ (HG.out _ HB5.out).1).mono ?_
      rintro e v9 ⟨rfl, hb⟩
      have HB9 := Lib.hid (HB5.out.trans (hb.mono (HG.out _ HB5.out).2.2.2))
      clear hb
      go_wp2
      go_ret
      exact ⟨rfl, (HG.out _ HB9.out).2.2.1⟩
  · have m1 : (te != 0) = true := by rw [bne_iff_ne]; exact h1
    clear hn h1
    have HE : Hid (∀ W, Below w.heap.size w W → EnvS W) := Lib.hid (fun W h => hE.below h)
    clear hE
    go_enter Tryd.func7, Tryd.ntmps7
    go_wp2_with fail
    refine (kExample_any w).mono ?_
    rintro e w1 ⟨g0, g1, g2, rfl, hS, hb⟩
    have HX := Lib.hid (@boxed w1 (some ⟨g0, 0, none⟩) (some ⟨g1, 0, none⟩) (some ⟨g2, 0, none⟩) 2 2 3 3 1 1 31)
    have HG : Hid (∀ W, Below (w1.heap.size + 1) (w1.alloc (.cells #[.slice (some ⟨g0, 0, none⟩) 2 2, .slice (some ⟨g1, 0, none⟩) 3 3, .slice (some ⟨g2, 0, none⟩) 1 1] 31)) W → EnvS W ∧ SigR W W.heap.size (.agg #[.slice (some ⟨g0, 0, none⟩) 2 2, .slice (some ⟨g1, 0, none⟩) 3 3, .slice (some ⟨g2, 0, none⟩) 1 1]) exA exF exX ∧ Below w.heap.size w W ∧ w1.heap.size + 1 ≤ W.heap.size) := Lib.hid (fun W hW => by
      have h1 : Below w1.heap.size w1 W := ((Below.refl _ w1).alloc (Nat.le_refl _) _).trans (hW.mono (by omega))
      have h2 : Below w.heap.size w W := hb.trans (h1.mono hb.size)
      exact ⟨HE.out W h2, hS.on h1, h2, by have := hW.size; simpa using this⟩)
    have HB0 := Lib.hid (Below.refl (w1.heap.size + 1) (w1.alloc (.cells #[.slice (some ⟨g0, 0, none⟩) 2 2, .slice (some ⟨g1, 0, none⟩) 3 3, .slice (some ⟨g2, 0, none⟩) 1 1] 31)))
    clear hS hb HE
    go_wp2_with fail
    refine (HT1.out _).mono ?_
    rintro e w3 ⟨A1, c1, A2, c2, rfl, hR1, hR2, hb⟩
    have HB3 := Lib.hid (HB0.out.trans (hb.mono (HG.out _ HB0.out).2.2.2))
    have HR1 := Lib.hid hR1
    have HR2 := Lib.hid hR2
    clear hb hR1 hR2 HT1 HB0
    go_wp2_with fail
    refine (HT2.out _).mono ?_
    rintro e w4 ⟨A3, c3, A4, c4, rfl, _, _, hb⟩
    have HB4 := Lib.hid (HB3.out.trans (hb.mono (HG.out _ HB3.out).2.2.2))
    have HR3 := Lib.hid ((HR1.out.below hb).more hb.size)
    have HR4 := Lib.hid ((HR2.out.below hb).more hb.size)
    clear hb HT2 HB3 HR1 HR2
    obtain ⟨q0, q1, q2⟩ := HX.out _ HB4.out
    go_wp2_with fail
    refine (HPA.out _ _ _ _ (HG.out _ HB4.out).2.1 (HG.out _ HB4.out).1).mono ?_
    rintro e w5 ⟨A5, c5, rfl, hO, hb⟩
    have HB5 := Lib.hid (HB4.out.trans (hb.mono (HG.out _ HB4.out).2.2.2))
    have HR5 := Lib.hid ((HR3.out.below hb).more hb.size)
    have HR6 := Lib.hid ((HR4.out.below hb).more hb.size)
    clear hO hb HPA q0 q1 q2 HB4 HR3 HR4
    go_wp2_with fail
    refine (awake_any _ (HG.out _ HB5.out).1).mono ?_
    rintro e v9 ⟨rfl, hb⟩
    have HB9 := Lib.hid (HB5.out.trans (hb.mono (HG.out _ HB5.out).2.2.2))
    clear hb
    go_wp2
    go_ret
    exact ⟨rfl, (HG.out _ HB9.out).2.2.1⟩
set_option maxRecDepth 100000 in
set_option maxHeartbeats 8000000 in
theorem walk_e4 (t b : ByteArray) (w : World) (ha : t.size ≤ 300) (hb' : b.size ≤ 300) (h1 : (tokV t).err = 0) (h2 : (tokV b).err = 0) (he : (parseV exA exF exX t).err = 4) (hE : EnvS w) :
    Calls Tryd.prog 7 #[.string t, .string b] w fun e w' => e = .returned (.bool true) ∧ Below w.heap.size w w' := by
  have d1 : decide ((300 : Int) < (t.size : Int)) = false := decide_eq_false (by omega)
  have d2 : decide (300 < t.size) = false := decide_eq_false (by omega)
  have d3 : decide ((300 : Int) < (b.size : Int)) = false := decide_eq_false (by omega)
  have d4 : decide (300 < b.size) = false := decide_eq_false (by omega)
  have HT1 := Lib.hid (fun W => kTokens_any t W (by unfold maxLen; omega))
  have HT2 := Lib.hid (fun W => kTokens_any b W (by unfold maxLen; omega))
  have HPA := Lib.hid (fun v0 v1 v2 W hS hE => kParse_own (some ⟨v0, 0, none⟩) 2 2 (some ⟨v1, 0, none⟩) 3 3 (some ⟨v2, 0, none⟩) 1 1 exA exF exX t W hS hE (by unfold maxLen; omega))
  obtain ⟨hn1, _⟩ := words_small h1
  obtain ⟨hn2, _⟩ := words_small h2
  have hbb := (tokV_bound t).1
  have HSP := Lib.hid (stop_parse (A := exA) (F := exF) (X := exX) h1 h2 ha hb' (by decide) (by first | exact .inl he | exact .inr he))
  rw [he] at HSP HPA
  rw [h1] at HT1
  rw [h2] at HT2
  have HPS := Lib.hid (fun S v0 v1 v2 W hS hE (hz : S.size ≤ maxLen) => kParse_own (some ⟨v0, 0, none⟩) 2 2 (some ⟨v1, 0, none⟩) 3 3 (some ⟨v2, 0, none⟩) 1 1 exA exF exX S W hS hE hz)
  generalize hPO : (parseV exA exF exX t).pos = po at *
  generalize hWS : (tokV t).words = ws at *
  generalize hAT : (tokV t).ats = ats at *
  generalize hBW : (tokV b).words = bws at *
  have e1 : decide ((300 : Int) < (ws.length : Int)) = false := decide_eq_false (by omega)
  have e2 : decide (300 < ws.length) = false := decide_eq_false (by omega)
  have e3 : decide ((300 : Int) < (bws.length : Int)) = false := decide_eq_false (by omega)
  have e4 : decide (300 < bws.length) = false := decide_eq_false (by omega)
  have HBB := Lib.hid hbb
  rw [← hbb] at HT1
  have e5 : ((ws.length : Int) != (ws.length : Int)) = false := by simp
  generalize hL : ws.length = L at *
  clear h1 h2 he hbb hPO hWS hAT hBW hn2
  have HLL := Lib.hid hL
  clear hL
  have HE : Hid (∀ W, Below w.heap.size w W → EnvS W) := Lib.hid (fun W h => hE.below h)
  clear hE
  go_enter Tryd.func7, Tryd.ntmps7
  go_wp2_with fail
  refine (kExample_any w).mono ?_
  rintro e w1 ⟨g0, g1, g2, rfl, hS, hb⟩
  have HX := Lib.hid (@boxed w1 (some ⟨g0, 0, none⟩) (some ⟨g1, 0, none⟩) (some ⟨g2, 0, none⟩) 2 2 3 3 1 1 31)
  have HG : Hid (∀ W, Below (w1.heap.size + 1) (w1.alloc (.cells #[.slice (some ⟨g0, 0, none⟩) 2 2, .slice (some ⟨g1, 0, none⟩) 3 3, .slice (some ⟨g2, 0, none⟩) 1 1] 31)) W → EnvS W ∧ SigR W W.heap.size (.agg #[.slice (some ⟨g0, 0, none⟩) 2 2, .slice (some ⟨g1, 0, none⟩) 3 3, .slice (some ⟨g2, 0, none⟩) 1 1]) exA exF exX ∧ Below w.heap.size w W ∧ w1.heap.size + 1 ≤ W.heap.size) := Lib.hid (fun W hW => by
    have h1 : Below w1.heap.size w1 W := ((Below.refl _ w1).alloc (Nat.le_refl _) _).trans (hW.mono (by omega))
    have h2 : Below w.heap.size w W := hb.trans (h1.mono hb.size)
    exact ⟨HE.out W h2, hS.on h1, h2, by have := hW.size; simpa using this⟩)
  have HB0 := Lib.hid (Below.refl (w1.heap.size + 1) (w1.alloc (.cells #[.slice (some ⟨g0, 0, none⟩) 2 2, .slice (some ⟨g1, 0, none⟩) 3 3, .slice (some ⟨g2, 0, none⟩) 1 1] 31)))
  clear hS hb HE
  go_wp2_with fail
  refine (HT1.out _).mono ?_
  rintro e w3 ⟨A1, c1, A2, c2, rfl, hR1, hR2, hb⟩
  have HB3 := Lib.hid (HB0.out.trans (hb.mono (HG.out _ HB0.out).2.2.2))
  have HR1 := Lib.hid hR1
  have HR2 := Lib.hid hR2
  clear hb hR1 hR2 HT1 HB0
  go_wp2_with fail
  refine (HT2.out _).mono ?_
  rintro e w4 ⟨A3, c3, A4, c4, rfl, _, _, hb⟩
  have HB4 := Lib.hid (HB3.out.trans (hb.mono (HG.out _ HB3.out).2.2.2))
  have HR3 := Lib.hid ((HR1.out.below hb).more hb.size)
  have HR4 := Lib.hid ((HR2.out.below hb).more hb.size)
  clear hb HT2 HB3 HR1 HR2
  obtain ⟨q0, q1, q2⟩ := HX.out _ HB4.out
  go_wp2_with fail
  refine (HPA.out _ _ _ _ (HG.out _ HB4.out).2.1 (HG.out _ HB4.out).1).mono ?_
  rintro e w5 ⟨A5, c5, rfl, hO, hb⟩
  have HB5 := Lib.hid (HB4.out.trans (hb.mono (HG.out _ HB4.out).2.2.2))
  have HR5 := Lib.hid ((HR3.out.below hb).more hb.size)
  have HR6 := Lib.hid ((HR4.out.below hb).more hb.size)
  clear hO hb HPA q0 q1 q2 HB4 HR3 HR4
  have HXW := Lib.hid (fun W (hW : Below w5.heap.size w5 W) => HB5.out.trans (hW.mono (HG.out _ HB5.out).2.2.2))
  have HS : Hid (∀ W, Below w5.heap.size w5 W → (W.cell? ⟨w1.heap.size, 0, none⟩ = some (.slice (some ⟨g0, 0, none⟩) 2 2) ∧ W.cell? ⟨w1.heap.size, 1, none⟩ = some (.slice (some ⟨g1, 0, none⟩) 3 3) ∧ W.cell? ⟨w1.heap.size, 2, none⟩ = some (.slice (some ⟨g2, 0, none⟩) 1 1) ∧ Hid (Below w5.heap.size w5 W))) := Lib.hid (fun W hW => ⟨(HX.out W (HXW.out W hW)).1, (HX.out W (HXW.out W hW)).2.1, (HX.out W (HXW.out W hW)).2.2, Lib.hid hW⟩)
  go_wp2
  go_loopw [86] (fun iv wr => ∃ i : Nat, i ≤ L ∧ iv = .int .i64 i ∧ Hid (∀ j, j < i → ats.getD j 0 ≠ po) ∧ w5 = wr) (fun iv _ => L - (intOf iv).toNat)
  case atStart => exact ⟨0, Nat.zero_le _, rfl, Lib.hid (fun j hj => absurd hj (by omega)), rfl⟩
  case round =>
    obtain ⟨i, hi, rfl, HI, rfl⟩ := hrel
    by_cases hlt : i < L
    · obtain ⟨ad, rfl, hadb, hc1⟩ := HR5.out.str_at hlt
      obtain ⟨ad2, rfl, _, hc2⟩ := ni_at HR6.out hlt
      by_cases hp : ats.getD i 0 = po
      · rcases HSP.out with ⟨T, t1, t2, t3, t4, t5, t6⟩ | ⟨_, _, t7⟩
        · have hTi : T = i := by
            rcases Nat.lt_trichotomy T i with h | h | h
            · exact absurd t2 (HI.out T h)
            · exact h
            · exact absurd hp (t4 i h)
          subst hTi
          have HPT := Lib.hid (HPS.out (stopT t b (po + (ws.getD T ByteArray.empty).size)))
          rw [t5, t6] at HPT
          have hT : t.extract 0 (po + (ws.getD T ByteArray.empty).size) ++ ⟨#[32]⟩ ++ b = stopT t b (po + (ws.getD T ByteArray.empty).size) := rfl
          have hcut := cut0_run t po (ws.getD T ByteArray.empty).size t3
          have hxs : (t.extract 0 (po + (ws.getD T ByteArray.empty).size)).size ≤ 300 := by rw [ByteArray.size_extract]; omega
          have hSs : (stopT t b (po + (ws.getD T ByteArray.empty).size)).size ≤ maxLen := by
            have z1 : (⟨#[32]⟩ : ByteArray).size = 1 := rfl
            unfold stopT maxLen
            rw [ByteArray.size_append, ByteArray.size_append]
            omega
          rw [hp] at hc2
          generalize stopT t b (po + (ws.getD T ByteArray.empty).size) = S at *
          generalize hXX : t.extract 0 (po + (ws.getD T ByteArray.empty).size) = XX at *
          generalize (parseV exA exF exX S).nodes = lS at *
          have hz1 : ¬ 9223372036854775807 < XX.size + 1 := by omega
          have hz2 : ¬ 9223372036854775807 < XX.size + 1 + b.size := by omega
          clear hXX
          have p1 : ((po : Int) != (po : Int)) = false := by simp
          have p2 : decide ((po : Int) < 0) = false := decide_eq_false (by omega)
          have p3 : decide ((t.size : Int) < (po : Int)) = false := decide_eq_false (by omega)
          have p4 : decide (t.size < po) = false := decide_eq_false (by omega)
          generalize (ws.getD T ByteArray.empty) = x at *
          have p5 : decide ((t.size : Int) < (po : Int) + (x.size : Int)) = false := decide_eq_false (by omega)
          have p6 : decide (t.size < po + x.size) = false := decide_eq_false (by omega)
          obtain ⟨hw1, hw2⟩ : wrap64 ((po : Int) + (x.size : Int)) = (po : Int) + (x.size : Int) ∧ IntKind.i64.wrap ((po : Int) + (x.size : Int)) = (po : Int) + (x.size : Int) := ⟨by rw [wrap64_small (by omega) (by omega)], by rw [wrap_small (by omega) (by omega)]⟩
          have HS2 : Hid (∀ W, Below w5.heap.size w5 W → (W.cell? ⟨w1.heap.size, 0, none⟩ = some (.slice (some ⟨g0, 0, none⟩) 2 2) ∧ W.cell? ⟨w1.heap.size, 1, none⟩ = some (.slice (some ⟨g1, 0, none⟩) 3 3) ∧ W.cell? ⟨w1.heap.size, 2, none⟩ = some (.slice (some ⟨g2, 0, none⟩) 1 1) ∧ W.cell? (ad.add T) = some (.string x) ∧ Hid (Below w5.heap.size w5 W))) := Lib.hid (fun W hW => ⟨(HX.out W (HXW.out W hW)).1, (HX.out W (HXW.out W hW)).2.1, (HX.out W (HXW.out W hW)).2.2, (hW.cell (p := ad.add T) (by rw [block_of_add]; exact hadb)).trans hc1, Lib.hid hW⟩)
          have K2 : Hid (∀ W, Hid (Below w5.heap.size w5 W) → Calls Tryd.prog 15 #[.agg #[.slice (some ⟨g0, 0, none⟩) 2 2, .slice (some ⟨g1, 0, none⟩) 3 3, .slice (some ⟨g2, 0, none⟩) 1 1], .string S] W fun e W' => ∃ A' c', e = .returned (.tuple #[.slice A' lS.length c', .int .i64 (po : Int), .int .i64 4]) ∧ (W'.cell? ⟨w1.heap.size, 0, none⟩ = some (.slice (some ⟨g0, 0, none⟩) 2 2) ∧ W'.cell? ⟨w1.heap.size, 1, none⟩ = some (.slice (some ⟨g1, 0, none⟩) 3 3) ∧ W'.cell? ⟨w1.heap.size, 2, none⟩ = some (.slice (some ⟨g2, 0, none⟩) 1 1) ∧ W'.cell? (ad.add T) = some (.string x) ∧ Hid (Below w5.heap.size w5 W'))) := Lib.hid (fun W hW => (HPT.out _ _ _ W (HG.out _ (HXW.out W hW.out)).2.1 (HG.out _ (HXW.out W hW.out)).1 hSs).mono (by rintro e w' ⟨A', c', rfl, h1, h2⟩; exact ⟨A', c', rfl, HS2.out _ (hW.out.trans (h2.mono hW.out.size))⟩))
          have hc0 := HS2.out w5 (Below.refl _ _)
          obtain ⟨c0', c1', c2', c5', c3'⟩ := hc0
          have c4' : Hid (Below w5.heap.size w5 w5.drew) := Lib.hid (Below.refl _ w5).drew
          clear t1 t2 t4 t5 t6 HI HSP HPS HPT hp hc1
          go_wp2
          go_region_held3 (fun W => (W.cell? ⟨w1.heap.size, 0, none⟩ = some (.slice (some ⟨g0, 0, none⟩) 2 2) ∧ W.cell? ⟨w1.heap.size, 1, none⟩ = some (.slice (some ⟨g1, 0, none⟩) 3 3) ∧ W.cell? ⟨w1.heap.size, 2, none⟩ = some (.slice (some ⟨g2, 0, none⟩) 1 1) ∧ W.cell? (ad.add T) = some (.string x) ∧ Hid (Below w5.heap.size w5 W))) (first | assumption | (refine ⟨?_, ?_, ?_, ?_, ?_⟩ <;> assumption) | go_keep)
            (first
              | (go_at_call 15; refine (K2.out _ ?_).mono ?_; (first | assumption | simp [*]); rintro e Wp ⟨Ap, cp, rfl, y0, y1, y2, y3, y4⟩))
          clear K2 hT hcut
          go_wp2_with fail
          refine (awake_any _ (HG.out _ (HXW.out _ y4.out)).1).mono ?_
          rintro e v9 ⟨rfl, hb⟩
          have HB9 := Lib.hid (y4.out.trans (hb.mono y4.out.size))
          clear hb
          go_wp2
          go_ret
          exact ⟨rfl, (HG.out _ (HXW.out _ HB9.out)).2.2.1⟩
        · exact absurd hp (t7 i (by first | exact hlt | omega))
      · have p1 : (((ats.getD i 0 : Nat) : Int) != (po : Int)) = true := by rw [bne_iff_ne]; omega
        have HI2 : Hid (∀ j, j < i + 1 → ats.getD j 0 ≠ po) := Lib.hid (fun j hj => by
          by_cases e : j = i
          · subst e; exact hp
          · exact HI.out j (by omega))
        generalize ats.getD i 0 = y at *
        clear HI hp
        go_wp2
        go_roundw
        case rel => exact ⟨i + 1, by omega, by go_num, HI2, by first | rfl | trivial⟩
        case measure => simp [intOf]; omega
    · have hiL : i = L := by omega
      subst hiL
      rcases HSP.out with ⟨T, t1, t2, _⟩ | ⟨t1, t2, _⟩
      · exact absurd t2 (HI.out T (by first | exact t1 | omega))
      · have p1 : ((po : Int) == (t.size : Int)) = true := by rw [beq_iff_eq]; omega
        clear HSP HPS HI t1 t2
        go_wp2_with fail
        refine (awake_any _ (HG.out _ HB5.out).1).mono ?_
        rintro e v9 ⟨rfl, hb⟩
        have HB9 := Lib.hid (HB5.out.trans (hb.mono (HG.out _ HB5.out).2.2.2))
        clear hb
        go_wp2
        go_ret
        exact ⟨rfl, (HG.out _ HB9.out).2.2.1⟩
set_option maxRecDepth 100000 in
set_option maxHeartbeats 8000000 in
theorem walk_e5 (t b : ByteArray) (w : World) (ha : t.size ≤ 300) (hb' : b.size ≤ 300) (h1 : (tokV t).err = 0) (h2 : (tokV b).err = 0) (he : (parseV exA exF exX t).err = 5) (hE : EnvS w) :
    Calls Tryd.prog 7 #[.string t, .string b] w fun e w' => e = .returned (.bool true) ∧ Below w.heap.size w w' := by
  have d1 : decide ((300 : Int) < (t.size : Int)) = false := decide_eq_false (by omega)
  have d2 : decide (300 < t.size) = false := decide_eq_false (by omega)
  have d3 : decide ((300 : Int) < (b.size : Int)) = false := decide_eq_false (by omega)
  have d4 : decide (300 < b.size) = false := decide_eq_false (by omega)
  have HT1 := Lib.hid (fun W => kTokens_any t W (by unfold maxLen; omega))
  have HT2 := Lib.hid (fun W => kTokens_any b W (by unfold maxLen; omega))
  have HPA := Lib.hid (fun v0 v1 v2 W hS hE => kParse_own (some ⟨v0, 0, none⟩) 2 2 (some ⟨v1, 0, none⟩) 3 3 (some ⟨v2, 0, none⟩) 1 1 exA exF exX t W hS hE (by unfold maxLen; omega))
  obtain ⟨hn1, _⟩ := words_small h1
  obtain ⟨hn2, _⟩ := words_small h2
  have hbb := (tokV_bound t).1
  have HSP := Lib.hid (stop_parse (A := exA) (F := exF) (X := exX) h1 h2 ha hb' (by decide) (by first | exact .inl he | exact .inr he))
  rw [he] at HSP HPA
  rw [h1] at HT1
  rw [h2] at HT2
  have HPS := Lib.hid (fun S v0 v1 v2 W hS hE (hz : S.size ≤ maxLen) => kParse_own (some ⟨v0, 0, none⟩) 2 2 (some ⟨v1, 0, none⟩) 3 3 (some ⟨v2, 0, none⟩) 1 1 exA exF exX S W hS hE hz)
  generalize hPO : (parseV exA exF exX t).pos = po at *
  generalize hWS : (tokV t).words = ws at *
  generalize hAT : (tokV t).ats = ats at *
  generalize hBW : (tokV b).words = bws at *
  have e1 : decide ((300 : Int) < (ws.length : Int)) = false := decide_eq_false (by omega)
  have e2 : decide (300 < ws.length) = false := decide_eq_false (by omega)
  have e3 : decide ((300 : Int) < (bws.length : Int)) = false := decide_eq_false (by omega)
  have e4 : decide (300 < bws.length) = false := decide_eq_false (by omega)
  have HBB := Lib.hid hbb
  rw [← hbb] at HT1
  have e5 : ((ws.length : Int) != (ws.length : Int)) = false := by simp
  generalize hL : ws.length = L at *
  clear h1 h2 he hbb hPO hWS hAT hBW hn2
  have HLL := Lib.hid hL
  clear hL
  have HE : Hid (∀ W, Below w.heap.size w W → EnvS W) := Lib.hid (fun W h => hE.below h)
  clear hE
  go_enter Tryd.func7, Tryd.ntmps7
  go_wp2_with fail
  refine (kExample_any w).mono ?_
  rintro e w1 ⟨g0, g1, g2, rfl, hS, hb⟩
  have HX := Lib.hid (@boxed w1 (some ⟨g0, 0, none⟩) (some ⟨g1, 0, none⟩) (some ⟨g2, 0, none⟩) 2 2 3 3 1 1 31)
  have HG : Hid (∀ W, Below (w1.heap.size + 1) (w1.alloc (.cells #[.slice (some ⟨g0, 0, none⟩) 2 2, .slice (some ⟨g1, 0, none⟩) 3 3, .slice (some ⟨g2, 0, none⟩) 1 1] 31)) W → EnvS W ∧ SigR W W.heap.size (.agg #[.slice (some ⟨g0, 0, none⟩) 2 2, .slice (some ⟨g1, 0, none⟩) 3 3, .slice (some ⟨g2, 0, none⟩) 1 1]) exA exF exX ∧ Below w.heap.size w W ∧ w1.heap.size + 1 ≤ W.heap.size) := Lib.hid (fun W hW => by
    have h1 : Below w1.heap.size w1 W := ((Below.refl _ w1).alloc (Nat.le_refl _) _).trans (hW.mono (by omega))
    have h2 : Below w.heap.size w W := hb.trans (h1.mono hb.size)
    exact ⟨HE.out W h2, hS.on h1, h2, by have := hW.size; simpa using this⟩)
  have HB0 := Lib.hid (Below.refl (w1.heap.size + 1) (w1.alloc (.cells #[.slice (some ⟨g0, 0, none⟩) 2 2, .slice (some ⟨g1, 0, none⟩) 3 3, .slice (some ⟨g2, 0, none⟩) 1 1] 31)))
  clear hS hb HE
  go_wp2_with fail
  refine (HT1.out _).mono ?_
  rintro e w3 ⟨A1, c1, A2, c2, rfl, hR1, hR2, hb⟩
  have HB3 := Lib.hid (HB0.out.trans (hb.mono (HG.out _ HB0.out).2.2.2))
  have HR1 := Lib.hid hR1
  have HR2 := Lib.hid hR2
  clear hb hR1 hR2 HT1 HB0
  go_wp2_with fail
  refine (HT2.out _).mono ?_
  rintro e w4 ⟨A3, c3, A4, c4, rfl, _, _, hb⟩
  have HB4 := Lib.hid (HB3.out.trans (hb.mono (HG.out _ HB3.out).2.2.2))
  have HR3 := Lib.hid ((HR1.out.below hb).more hb.size)
  have HR4 := Lib.hid ((HR2.out.below hb).more hb.size)
  clear hb HT2 HB3 HR1 HR2
  obtain ⟨q0, q1, q2⟩ := HX.out _ HB4.out
  go_wp2_with fail
  refine (HPA.out _ _ _ _ (HG.out _ HB4.out).2.1 (HG.out _ HB4.out).1).mono ?_
  rintro e w5 ⟨A5, c5, rfl, hO, hb⟩
  have HB5 := Lib.hid (HB4.out.trans (hb.mono (HG.out _ HB4.out).2.2.2))
  have HR5 := Lib.hid ((HR3.out.below hb).more hb.size)
  have HR6 := Lib.hid ((HR4.out.below hb).more hb.size)
  clear hO hb HPA q0 q1 q2 HB4 HR3 HR4
  have HXW := Lib.hid (fun W (hW : Below w5.heap.size w5 W) => HB5.out.trans (hW.mono (HG.out _ HB5.out).2.2.2))
  have HS : Hid (∀ W, Below w5.heap.size w5 W → (W.cell? ⟨w1.heap.size, 0, none⟩ = some (.slice (some ⟨g0, 0, none⟩) 2 2) ∧ W.cell? ⟨w1.heap.size, 1, none⟩ = some (.slice (some ⟨g1, 0, none⟩) 3 3) ∧ W.cell? ⟨w1.heap.size, 2, none⟩ = some (.slice (some ⟨g2, 0, none⟩) 1 1) ∧ Hid (Below w5.heap.size w5 W))) := Lib.hid (fun W hW => ⟨(HX.out W (HXW.out W hW)).1, (HX.out W (HXW.out W hW)).2.1, (HX.out W (HXW.out W hW)).2.2, Lib.hid hW⟩)
  go_wp2
  go_loopw [86] (fun iv wr => ∃ i : Nat, i ≤ L ∧ iv = .int .i64 i ∧ Hid (∀ j, j < i → ats.getD j 0 ≠ po) ∧ w5 = wr) (fun iv _ => L - (intOf iv).toNat)
  case atStart => exact ⟨0, Nat.zero_le _, rfl, Lib.hid (fun j hj => absurd hj (by omega)), rfl⟩
  case round =>
    obtain ⟨i, hi, rfl, HI, rfl⟩ := hrel
    by_cases hlt : i < L
    · obtain ⟨ad, rfl, hadb, hc1⟩ := HR5.out.str_at hlt
      obtain ⟨ad2, rfl, _, hc2⟩ := ni_at HR6.out hlt
      by_cases hp : ats.getD i 0 = po
      · rcases HSP.out with ⟨T, t1, t2, t3, t4, t5, t6⟩ | ⟨_, _, t7⟩
        · have hTi : T = i := by
            rcases Nat.lt_trichotomy T i with h | h | h
            · exact absurd t2 (HI.out T h)
            · exact h
            · exact absurd hp (t4 i h)
          subst hTi
          have HPT := Lib.hid (HPS.out (stopT t b (po + (ws.getD T ByteArray.empty).size)))
          rw [t5, t6] at HPT
          have hT : t.extract 0 (po + (ws.getD T ByteArray.empty).size) ++ ⟨#[32]⟩ ++ b = stopT t b (po + (ws.getD T ByteArray.empty).size) := rfl
          have hcut := cut0_run t po (ws.getD T ByteArray.empty).size t3
          have hxs : (t.extract 0 (po + (ws.getD T ByteArray.empty).size)).size ≤ 300 := by rw [ByteArray.size_extract]; omega
          have hSs : (stopT t b (po + (ws.getD T ByteArray.empty).size)).size ≤ maxLen := by
            have z1 : (⟨#[32]⟩ : ByteArray).size = 1 := rfl
            unfold stopT maxLen
            rw [ByteArray.size_append, ByteArray.size_append]
            omega
          rw [hp] at hc2
          generalize stopT t b (po + (ws.getD T ByteArray.empty).size) = S at *
          generalize hXX : t.extract 0 (po + (ws.getD T ByteArray.empty).size) = XX at *
          generalize (parseV exA exF exX S).nodes = lS at *
          have hz1 : ¬ 9223372036854775807 < XX.size + 1 := by omega
          have hz2 : ¬ 9223372036854775807 < XX.size + 1 + b.size := by omega
          clear hXX
          have p1 : ((po : Int) != (po : Int)) = false := by simp
          have p2 : decide ((po : Int) < 0) = false := decide_eq_false (by omega)
          have p3 : decide ((t.size : Int) < (po : Int)) = false := decide_eq_false (by omega)
          have p4 : decide (t.size < po) = false := decide_eq_false (by omega)
          generalize (ws.getD T ByteArray.empty) = x at *
          have p5 : decide ((t.size : Int) < (po : Int) + (x.size : Int)) = false := decide_eq_false (by omega)
          have p6 : decide (t.size < po + x.size) = false := decide_eq_false (by omega)
          obtain ⟨hw1, hw2⟩ : wrap64 ((po : Int) + (x.size : Int)) = (po : Int) + (x.size : Int) ∧ IntKind.i64.wrap ((po : Int) + (x.size : Int)) = (po : Int) + (x.size : Int) := ⟨by rw [wrap64_small (by omega) (by omega)], by rw [wrap_small (by omega) (by omega)]⟩
          have HS2 : Hid (∀ W, Below w5.heap.size w5 W → (W.cell? ⟨w1.heap.size, 0, none⟩ = some (.slice (some ⟨g0, 0, none⟩) 2 2) ∧ W.cell? ⟨w1.heap.size, 1, none⟩ = some (.slice (some ⟨g1, 0, none⟩) 3 3) ∧ W.cell? ⟨w1.heap.size, 2, none⟩ = some (.slice (some ⟨g2, 0, none⟩) 1 1) ∧ W.cell? (ad.add T) = some (.string x) ∧ Hid (Below w5.heap.size w5 W))) := Lib.hid (fun W hW => ⟨(HX.out W (HXW.out W hW)).1, (HX.out W (HXW.out W hW)).2.1, (HX.out W (HXW.out W hW)).2.2, (hW.cell (p := ad.add T) (by rw [block_of_add]; exact hadb)).trans hc1, Lib.hid hW⟩)
          have K2 : Hid (∀ W, Hid (Below w5.heap.size w5 W) → Calls Tryd.prog 15 #[.agg #[.slice (some ⟨g0, 0, none⟩) 2 2, .slice (some ⟨g1, 0, none⟩) 3 3, .slice (some ⟨g2, 0, none⟩) 1 1], .string S] W fun e W' => ∃ A' c', e = .returned (.tuple #[.slice A' lS.length c', .int .i64 (po : Int), .int .i64 5]) ∧ (W'.cell? ⟨w1.heap.size, 0, none⟩ = some (.slice (some ⟨g0, 0, none⟩) 2 2) ∧ W'.cell? ⟨w1.heap.size, 1, none⟩ = some (.slice (some ⟨g1, 0, none⟩) 3 3) ∧ W'.cell? ⟨w1.heap.size, 2, none⟩ = some (.slice (some ⟨g2, 0, none⟩) 1 1) ∧ W'.cell? (ad.add T) = some (.string x) ∧ Hid (Below w5.heap.size w5 W'))) := Lib.hid (fun W hW => (HPT.out _ _ _ W (HG.out _ (HXW.out W hW.out)).2.1 (HG.out _ (HXW.out W hW.out)).1 hSs).mono (by rintro e w' ⟨A', c', rfl, h1, h2⟩; exact ⟨A', c', rfl, HS2.out _ (hW.out.trans (h2.mono hW.out.size))⟩))
          have hc0 := HS2.out w5 (Below.refl _ _)
          obtain ⟨c0', c1', c2', c5', c3'⟩ := hc0
          have c4' : Hid (Below w5.heap.size w5 w5.drew) := Lib.hid (Below.refl _ w5).drew
          clear t1 t2 t4 t5 t6 HI HSP HPS HPT hp hc1
          go_wp2
          go_region_held3 (fun W => (W.cell? ⟨w1.heap.size, 0, none⟩ = some (.slice (some ⟨g0, 0, none⟩) 2 2) ∧ W.cell? ⟨w1.heap.size, 1, none⟩ = some (.slice (some ⟨g1, 0, none⟩) 3 3) ∧ W.cell? ⟨w1.heap.size, 2, none⟩ = some (.slice (some ⟨g2, 0, none⟩) 1 1) ∧ W.cell? (ad.add T) = some (.string x) ∧ Hid (Below w5.heap.size w5 W))) (first | assumption | (refine ⟨?_, ?_, ?_, ?_, ?_⟩ <;> assumption) | go_keep)
            (first
              | (go_at_call 15; refine (K2.out _ ?_).mono ?_; (first | assumption | simp [*]); rintro e Wp ⟨Ap, cp, rfl, y0, y1, y2, y3, y4⟩))
          clear K2 hT hcut
          go_wp2_with fail
          refine (awake_any _ (HG.out _ (HXW.out _ y4.out)).1).mono ?_
          rintro e v9 ⟨rfl, hb⟩
          have HB9 := Lib.hid (y4.out.trans (hb.mono y4.out.size))
          clear hb
          go_wp2
          go_ret
          exact ⟨rfl, (HG.out _ (HXW.out _ HB9.out)).2.2.1⟩
        · exact absurd hp (t7 i (by first | exact hlt | omega))
      · have p1 : (((ats.getD i 0 : Nat) : Int) != (po : Int)) = true := by rw [bne_iff_ne]; omega
        have HI2 : Hid (∀ j, j < i + 1 → ats.getD j 0 ≠ po) := Lib.hid (fun j hj => by
          by_cases e : j = i
          · subst e; exact hp
          · exact HI.out j (by omega))
        generalize ats.getD i 0 = y at *
        clear HI hp
        go_wp2
        go_roundw
        case rel => exact ⟨i + 1, by omega, by go_num, HI2, by first | rfl | trivial⟩
        case measure => simp [intOf]; omega
    · have hiL : i = L := by omega
      subst hiL
      rcases HSP.out with ⟨T, t1, t2, _⟩ | ⟨t1, t2, _⟩
      · exact absurd t2 (HI.out T (by first | exact t1 | omega))
      · have p1 : ((po : Int) == (t.size : Int)) = true := by rw [beq_iff_eq]; omega
        exact absurd t2 (by decide)
theorem walk (a b : ByteArray) (w : World) (ha : a.size ≤ maxLen) (hb : b.size ≤ maxLen) (hE : EnvS w) :
    Calls Tryd.prog 7 #[.string a, .string b] w fun e w' => e = .returned (.bool true) ∧ Below w.heap.size w w' := by
  by_cases h : 300 < a.size ∨ 300 < b.size
  · exact walk_long a b w h ha hb hE
  · have h1 : a.size ≤ 300 := by omega
    have h2 : b.size ≤ 300 := by omega
    by_cases k1 : (tokV a).err = 0
    · by_cases k2 : (tokV b).err = 0
      · by_cases k3 : (parseV exA exF exX a).err = 4
        · exact walk_e4 a b w h1 h2 k1 k2 k3 hE
        · by_cases k4 : (parseV exA exF exX a).err = 5
          · exact walk_e5 a b w h1 h2 k1 k2 k4 hE
          · exact walk_no a b w h1 h2 (.inr (.inr ⟨k3, k4⟩)) hE
      · exact walk_no a b w h1 h2 (.inr (.inl k2)) hE
    · exact walk_no a b w h1 h2 (.inl k1) hE
set_option maxRecDepth 100000 in
theorem contract (H : Type) (enc : TypeId × Value → H) (W : World) (base : Nat) (args : Array Value) (ds gs : List (DataW H)) (before : List MemPlace)
    (hval : ∀ (j : Nat) t v, Tryd.f7.params[j]? = some t → args[j]? = some v → Value.okWide Tryd.prog W .any base t v)
    (hW : DataW.Whole enc Tryd.prog Tryd.f7.params.toList Rows.parserStopsSpec.vars false W args.toList ds gs before) (hE : EnvS W) :
    Calls Tryd.prog 7 args W fun e W' => ∃ v, e = .returned v ∧ Rows.parserStopsSpec.post enc Tryd.prog Tryd.f7 false true false false W args v W' := by
  have hW' := hW
  obtain ⟨p, q, hA0, hV, rfl, hfz, hnd⟩ := hW
  have hA : DataW.TrodAll enc Tryd.prog W 0 (fun _ => true) true Tryd.f7.params.toList args.toList ds p := hA0
  rw [Tryd.params7] at hA hval
  obtain ⟨v0, vs0, d0, ds0, p0, q0, hargs, rfl, rfl, h0, r0⟩ := trodAll_cons hA
  obtain ⟨v1, vs1, d1, ds1, p1, q1, rfl, rfl, rfl, h1, r1⟩ := trodAll_cons r0
  obtain ⟨rfl, rfl, rfl⟩ := trodAll_nil r1
  obtain rfl : args = #[v0, v1] := by cases args; simp_all
  obtain ⟨rfl, rfl⟩ := trodVars_none hV
  obtain ⟨t0, rfl, rfl, rfl, w0⟩ := open_string Tryd.underlying9 (hval 0 9 v0 rfl rfl) h0
  obtain ⟨t1, rfl, rfl, rfl, w1⟩ := open_string Tryd.underlying9 (hval 1 9 v1 rfl rfl) h1
  clear hA0
  simp only [List.append_nil] at hW'
  have hwalk := walk t0 t1 W w0 w1 hE
  refine hwalk.mono fun e W' ⟨he, hg⟩ => ?_
  subst he
  exact ⟨_, rfl, _, _, _, [], _, [], hW', trodAll_mk1 (shut_bool Tryd.underlying4 _), (trodAll_cons_mk (shut_string Tryd.underlying9 w0) (trodAll_cons_mk (shut_string Tryd.underlying9 w1) trodAll_mk0)), rfl, hg.frame _, fun h => by cases h⟩
theorem reads (os : Os) {H : Type} (enc : TypeId × Value → H) : ∃ places, DataW.whole enc Tryd.prog ((laidW os).forCall (fun _ _ => 0) ⟨#[], #[.string ⟨#[]⟩, .string ⟨#[]⟩], []⟩).memory Tryd.f7.params.toList Rows.parserStopsSpec.vars false #[(.string ⟨#[]⟩ : Value), (.string ⟨#[]⟩ : Value)].toList 8 = some ([.lit (.string []), .lit (.string [])], [], places) :=
  ⟨[], by kernel_rfl⟩
set_option maxRecDepth 100000 in
theorem lifted (os : Os) (started : os.Started) (H : Type) (enc : TypeId × Value → H) (F : Stop.Interp) :
    ReturnsInHanded {} Tryd.checked os 7 .any ((OpenSpec.ofChange Rows.parserStopsSpec).preRow enc Tryd.prog Tryd.f7 Rows.parserStopsRow.domain false Rows.parserStopsRow.laid) (((OpenSpec.ofChange Rows.parserStopsSpec).at F).post enc Tryd.prog Tryd.f7 false true false false) := by
  obtain ⟨places, hx⟩ := reads os enc
  refine returnsInHanded_of_row (C := Tryd.checked) (s := OpenSpec.ofChange Rows.parserStopsSpec) own started (by kernel_rfl) Tryd.func7
    (witness_row_atRef (enc := enc) (C := Tryd.checked) false (laidW os) #[.string ⟨#[]⟩, .string ⟨#[]⟩] (laidW_os os) (vars_ok os _) (heap_ok os _) (by kernel_rfl)
      (OpenSpec.preRow_of_cond 8 hx (by kernel_rfl) (fun k hk => by cases hk) (by kernel_rfl) (laid_met os _))) ?_
  intro W base args ds gs before hval hW _ _ _ hL hsh _
  exact contract H enc W base args ds gs before hval hW (env_of hL hsh)
theorem said : Rows.ParserStopsSaid :=
  OpenClaim.holds_of_cond 7 Tryd.f7 rfl rfl rfl rfl rfl rfl rfl ⟨rfl, rfl, rfl, rfl, rfl⟩ rfl rfl rfl rfl rfl (by kernel_rfl) Tryd.func7 (by kernel_rfl)
    (of_decide_eq_true (by kernel_rfl)) (by unfold Func.isWrapper; first | (rw [if_pos (by decide +kernel)]; kernel_rfl) | (rw [if_neg (by decide +kernel)]; exact ⟨rfl, rfl⟩))
    (fun os started H enc _ F => by rw [OpenClaim.pre_eq_preRow]; exact lifted os started H enc F)
theorem plain (f : FuncId) (fn : Func) (hf : Tryd.pinned.checked.prog.funcNamed "witting/wittinglaw06.ParserStops" = some f) (hfn : Tryd.pinned.checked.prog.funcs[f]? = some fn) :
    false = Tryd.pinned.checked.prog.looks [] ∧ ∀ (j : Nat) t, fn.params[j]? = some t → Tryd.pinned.checked.prog.wantsStandIn t = false := by
  obtain rfl : f = 7 := Option.some.inj ((show Tryd.prog.funcNamed "witting/wittinglaw06.ParserStops" = some 7 by kernel_rfl).symm.trans hf) |>.symm
  obtain rfl : fn = Tryd.f7 := (Option.some.inj (Tryd.func7.symm.trans hfn)).symm
  refine ⟨no_looks, fun j t ht => ?_⟩
  rw [Tryd.params7] at ht
  have hm : t ∈ [9, 9] := by simpa using Array.mem_of_getElem? ht
  have hall : ([9, 9].all fun u => !Tryd.prog.wantsStandIn u) = true := by kernel_rfl
  exact (show Tryd.prog.wantsStandIn t = false by simpa using List.all_eq_true.1 hall t hm)
theorem card : Rows.ParserStopsCardSaid :=
  Claim7.holds_tied_plain_at .later [] _ _ _ _ said (fun _ h => by cases h) (by kernel_rfl) (fun _ h => by cases h) parserStops_row_tie rfl ⟨rfl, rfl⟩ (by kernel_rfl) rfl plain (by kernel_rfl)
#print axioms card
end Go.Proofs.YthhkeobjjeldhaaDoor.parserStops
