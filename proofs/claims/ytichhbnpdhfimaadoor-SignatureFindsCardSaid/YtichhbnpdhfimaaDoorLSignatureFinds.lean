/- SignatureFinds (P4.2): Agent, Fact, Action and Default return what is specified, for every signature, name and three numbers. Conditions: the package variables that the row lists hold what the program's text lays in them. -/
import Derived.Test.YtichhbnpdhfimaaDoorSx
import Derived.Deep.RegionHeld3
import Derived.Test.YtichhbnpdhfimaaDoorFd
namespace Go.Proofs.YtichhbnpdhfimaaDoor.signatureFinds
open Go.ChangeShapes Go.WideShapes Go.ChangeAt Go.RowKit Go.Proofs.YtichhbnpdhfimaaDoor Go.Proofs.YtichhbnpdhfimaaDoor.sig Go.Proofs.Ws
open Go.ChangeMaps (open_string shut_string)

set_option maxRecDepth 100000 in
theorem open_arr {H : Type} {enc : TypeId × Value → H} {W : World} {held : Bool} {r : Reach} {b0 : Nat} {v : Value} {d : DataW H} {p : List MemPlace} (hv : Value.okWide Tryd.prog W r b0 44 v)
    (h : DataW.Trod enc Tryd.prog W 0 (fun _ => true) held 44 v d p) : ∃ x0 x1 x2 : Int, v = .agg #[.int .i64 x0, .int .i64 x1, .int .i64 x2] := by
  obtain ⟨cs, rfl, hsz⟩ : ∃ xs : Array Value, v = .agg xs ∧ xs.size = 3 := by
    simp only [Value.okWide, Tryd.underlying44] at hv
    obtain ⟨cs, h1, h2, _⟩ := hv
    exact ⟨cs, h1, h2.trans (by kernel_rfl)⟩
  obtain ⟨fuel, hf⟩ := h
  obtain ⟨xs, m, _, _, hl, hxl, hg⟩ := DataW.trod_array Tryd.underlying44 hf
  obtain ⟨c0, c1, c2, rfl⟩ := Go.Joins.array3 hsz
  have ce : Tryd.prog.cellsOf 3 = 1 := by kernel_rfl
  match xs, hxl with
  | [y0, y1, y2], _ =>
    have g0 := hg 0 (by omega)
    have g1 := hg 1 (by omega)
    have g2 := hg 2 (by omega)
    rw [ce] at g0 g1 g2
    simp [Value.cells] at g0 g1 g2
    obtain ⟨x0, e0, _⟩ := DataW.trod_int Tryd.underlying3 g0
    obtain ⟨x1, e1, _⟩ := DataW.trod_int Tryd.underlying3 g1
    obtain ⟨x2, e2, _⟩ := DataW.trod_int Tryd.underlying3 g2
    simp at e0 e1 e2
    exact ⟨x0, x1, x2, by rw [e0, e1, e2]⟩
set_option maxRecDepth 100000 in
set_option maxHeartbeats 2000000 in
theorem walk_many (a0 : Option Addr) (n0 c0 : Nat) (a1 : Option Addr) (n1 c1 : Nat) (a2 : Option Addr) (n2 c2 : Nat) (t : ByteArray) (x0 x1 x2 : Int) (w : World) (h0 : n0 ≤ maxLen) (h1 : n1 ≤ maxLen) (h2 : n2 ≤ maxLen) (hE : EnvS w) (hf : (decide (n0 ≤ 12) && decide (n1 ≤ 12) && decide (n2 ≤ 12)) = false) :
    Calls Tryd.prog 6 #[.agg #[.slice a0 n0 c0, .slice a1 n1 c1, .slice a2 n2 c2], .string t, .agg #[.int .i64 x0, .int .i64 x1, .int .i64 x2]] w fun e w' => e = .returned (.bool true) ∧ Below w.heap.size w w' := by
  have HX := Lib.hid (@boxed w a0 a1 a2 n0 c0 n1 c1 n2 c2 39)
  have HF := Lib.hid (fun W => hf ▸ pFew_any a0 a1 a2 n0 c0 n1 c1 n2 c2 W h0 h1 h2)
  have hb0 : Below (w.heap.size + 1) (w.alloc (.cells #[.slice a0 n0 c0, .slice a1 n1 c1, .slice a2 n2 c2] 39)) (w.alloc (.cells #[.slice a0 n0 c0, .slice a1 n1 c1, .slice a2 n2 c2] 39)) := Below.refl _ _
  have HG : Hid (∀ W, Below (w.heap.size + 1) (w.alloc (.cells #[.slice a0 n0 c0, .slice a1 n1 c1, .slice a2 n2 c2] 39)) W → EnvS W ∧ Below w.heap.size w W ∧ w.heap.size + 1 ≤ W.heap.size) := Lib.hid (fun W hW => by
    have h1 : Below w.heap.size w W := ((Below.refl _ w).alloc (Nat.le_refl _) _).trans (hW.mono (by omega))
    exact ⟨hE.below h1, h1, by have := hW.size; simpa using this⟩)
  have HB0 := Lib.hid hb0
  clear hE h0 h1 h2 hf hb0
  go_enter Tryd.func6, Tryd.ntmps6
  go_wp2_with fail
  refine (awakeS_any _ (HG.out _ ((Below.refl (w.heap.size + 1) (w.alloc (.cells #[.slice a0 n0 c0, .slice a1 n1 c1, .slice a2 n2 c2] 39))).alloc (by simp) (.cells #[.int .i64 x0, .int .i64 x1, .int .i64 x2] 44))).1).mono ?_
  rintro e w1 ⟨rfl, hb⟩
  have HB : Hid (Below (w.heap.size + 1) (w.alloc (.cells #[.slice a0 n0 c0, .slice a1 n1 c1, .slice a2 n2 c2] 39)) w1) := Lib.hid (((Below.refl (w.heap.size + 1) (w.alloc (.cells #[.slice a0 n0 c0, .slice a1 n1 c1, .slice a2 n2 c2] 39))).alloc (by simp) (.cells #[.int .i64 x0, .int .i64 x1, .int .i64 x2] 44)).trans (hb.mono (by simp)))
  have hc := HX.out w1 HB.out
  obtain ⟨hc0, hc1, hc2⟩ := hc
  clear hb
  go_wp2_with fail
  refine (HF.out _).mono ?_
  rintro e w2 ⟨rfl, hb⟩
  have HB2 : Hid (Below (w.heap.size + 1) (w.alloc (.cells #[.slice a0 n0 c0, .slice a1 n1 c1, .slice a2 n2 c2] 39)) w2) := Lib.hid (HB.out.trans (hb.mono (HG.out _ HB.out).2.2))
  clear hb hc0 hc1 hc2
  go_wp2_with fail
  refine (awakeS_any _ (HG.out _ HB2.out).1).mono ?_
  rintro e w3 ⟨rfl, hb⟩
  have HB3 : Hid (Below (w.heap.size + 1) (w.alloc (.cells #[.slice a0 n0 c0, .slice a1 n1 c1, .slice a2 n2 c2] 39)) w3) := Lib.hid (HB2.out.trans (hb.mono (HG.out _ HB2.out).2.2))
  clear hb
  go_wp2
  go_ret
  exact ⟨rfl, (HG.out _ HB3.out).2.1⟩

set_option maxRecDepth 100000 in
set_option maxHeartbeats 4000000 in
theorem walk_few (a0 : Option Addr) (n0 c0 : Nat) (a1 : Option Addr) (n1 c1 : Nat) (a2 : Option Addr) (n2 c2 : Nat) (A F X : List ByteArray) (t : ByteArray) (x0 x1 x2 : Int) (w : World) (hS : SigR w w.heap.size (.agg #[.slice a0 n0 c0, .slice a1 n1 c1, .slice a2 n2 c2]) A F X) (hE : EnvS w) (f0 : n0 ≤ 12) (f1 : n1 ≤ 12) (f2 : n2 ≤ 12) (ht : t.size ≤ maxLen) :
    Calls Tryd.prog 6 #[.agg #[.slice a0 n0 c0, .slice a1 n1 c1, .slice a2 n2 c2], .string t, .agg #[.int .i64 x0, .int .i64 x1, .int .i64 x2]] w fun e w' => e = .returned (.bool true) ∧ Below w.heap.size w w' := by
  have HX := Lib.hid (@boxed w a0 a1 a2 n0 c0 n1 c1 n2 c2 39)
  have HF := Lib.hid (fun W => (show (decide (n0 ≤ 12) && decide (n1 ≤ 12) && decide (n2 ≤ 12)) = true by simp [f0, f1, f2]) ▸ pFew_any a0 a1 a2 n0 c0 n1 c1 n2 c2 W (by unfold maxLen; omega) (by unfold maxLen; omega) (by unfold maxLen; omega))
  have HG : Hid (∀ W, Below (w.heap.size + 1) (w.alloc (.cells #[.slice a0 n0 c0, .slice a1 n1 c1, .slice a2 n2 c2] 39)) W → EnvS W ∧ SigR W W.heap.size (.agg #[.slice a0 n0 c0, .slice a1 n1 c1, .slice a2 n2 c2]) A F X ∧ Below w.heap.size w W ∧ w.heap.size + 1 ≤ W.heap.size) := Lib.hid (fun W hW => by
    have h1 : Below w.heap.size w W := ((Below.refl _ w).alloc (Nat.le_refl _) _).trans (hW.mono (by omega))
    exact ⟨hE.below h1, hS.on h1, h1, by have := hW.size; simpa using this⟩)

  have htm := ht
  unfold maxLen at ht
  have HEX : Hid (Below (w.heap.size + 1) (w.alloc (.cells #[.slice a0 n0 c0, .slice a1 n1 c1, .slice a2 n2 c2] 39)) ((w.alloc (.cells #[.slice a0 n0 c0, .slice a1 n1 c1, .slice a2 n2 c2] 39)).alloc (.cells #[.int .i64 x0, .int .i64 x1, .int .i64 x2] 44))) := Lib.hid ((Below.refl (w.heap.size + 1) (w.alloc (.cells #[.slice a0 n0 c0, .slice a1 n1 c1, .slice a2 n2 c2] 39))).alloc (by simp) (.cells #[.int .i64 x0, .int .i64 x1, .int .i64 x2] 44))
  have HXA : Hid (∀ W, Below (w.heap.size + 2) ((w.alloc (.cells #[.slice a0 n0 c0, .slice a1 n1 c1, .slice a2 n2 c2] 39)).alloc (.cells #[.int .i64 x0, .int .i64 x1, .int .i64 x2] 44)) W → W.cell? ⟨w.heap.size + 1, 0, none⟩ = some (.int .i64 x0) ∧ W.cell? ⟨w.heap.size + 1, 1, none⟩ = some (.int .i64 x1) ∧ W.cell? ⟨w.heap.size + 1, 2, none⟩ = some (.int .i64 x2)) := Lib.hid (fun W hW => by
    have hh := heap_alloc_new (w.alloc (.cells #[.slice a0 n0 c0, .slice a1 n1 c1, .slice a2 n2 c2] 39)) (.cells #[.int .i64 x0, .int .i64 x1, .int .i64 x2] 44)
    rw [show (w.alloc (.cells #[.slice a0 n0 c0, .slice a1 n1 c1, .slice a2 n2 c2] 39)).heap.size = w.heap.size + 1 by simp] at hh
    refine ⟨(hW.cell (p := ⟨w.heap.size + 1, 0, none⟩) (by simp)).trans ?_, (hW.cell (p := ⟨w.heap.size + 1, 1, none⟩) (by simp)).trans ?_, (hW.cell (p := ⟨w.heap.size + 1, 2, none⟩) (by simp)).trans ?_⟩ <;> (rw [Lib.cell_of_heap hh]; rfl))
  obtain ⟨A', F', X', E, hD1, hD2⟩ : ∃ A' F' X' E, (∀ W, EnvS W → Calls Tryd.prog 33 #[.int .i64 x0, .int .i64 x1, .int .i64 x2] W fun e w' => ∃ v, e = .returned (.tuple #[v, .int .i64 E]) ∧ SigR w' w'.heap.size v A' F' X' ∧ Below W.heap.size W w') ∧
      (∀ W, Calls Tryd.prog 34 #[.int .i64 x0, .int .i64 x1, .int .i64 x2] W fun e w' => ∃ v, e = .returned (.tuple #[v, .int .i64 E]) ∧ SigR w' w'.heap.size v A' F' X' ∧ Below W.heap.size W w') := by
    by_cases hin : (0 ≤ x0 ∧ x0 ≤ 4) ∧ (0 ≤ x1 ∧ x1 ≤ 8) ∧ 0 ≤ x2 ∧ x2 ≤ 8
    · obtain ⟨k0, rfl⟩ := Int.eq_ofNat_of_zero_le hin.1.1
      obtain ⟨k1, rfl⟩ := Int.eq_ofNat_of_zero_le hin.2.1.1
      obtain ⟨k2, rfl⟩ := Int.eq_ofNat_of_zero_le hin.2.2.1
      exact ⟨_, _, _, 0, fun W hW => pDefault_ok k0 k1 k2 W hW (by omega) (by omega) (by omega), fun W => pRefDefault_ok k0 k1 k2 W (by omega) (by omega) (by omega)⟩
    · refine ⟨[], [], [], 2, fun W _ => (pDefault_bad x0 x1 x2 W hin).mono ?_, fun W => (pRefDefault_bad x0 x1 x2 W hin).mono ?_⟩
      · rintro e w' ⟨rfl, hb⟩
        exact ⟨_, rfl, zero_sig, hb⟩
      · rintro e w' ⟨rfl, hb⟩
        exact ⟨_, rfl, zero_sig, hb⟩
  have HD1 := Lib.hid hD1
  have HD2 := Lib.hid hD2
  clear hS hE hD1 hD2
  go_enter Tryd.func6, Tryd.ntmps6
  go_wp2_with fail
  refine (awakeS_any _ (HG.out _ HEX.out).1).mono ?_
  rintro e w1 ⟨rfl, hb⟩
  have HB : Hid (Below (w.heap.size + 2) ((w.alloc (.cells #[.slice a0 n0 c0, .slice a1 n1 c1, .slice a2 n2 c2] 39)).alloc (.cells #[.int .i64 x0, .int .i64 x1, .int .i64 x2] 44)) w1) := Lib.hid (hb.mono (by simp))
  have hup : ∀ W, Below (w.heap.size + 2) ((w.alloc (.cells #[.slice a0 n0 c0, .slice a1 n1 c1, .slice a2 n2 c2] 39)).alloc (.cells #[.int .i64 x0, .int .i64 x1, .int .i64 x2] 44)) W → Below (w.heap.size + 1) (w.alloc (.cells #[.slice a0 n0 c0, .slice a1 n1 c1, .slice a2 n2 c2] 39)) W := fun W hW => HEX.out.trans (hW.mono (by omega))
  have HUP := Lib.hid hup
  have hsz2 : ∀ W, Below (w.heap.size + 2) ((w.alloc (.cells #[.slice a0 n0 c0, .slice a1 n1 c1, .slice a2 n2 c2] 39)).alloc (.cells #[.int .i64 x0, .int .i64 x1, .int .i64 x2] 44)) W → w.heap.size + 2 ≤ W.heap.size := fun W hW => by have := hW.size; simpa using this
  have HSZ := Lib.hid hsz2
  have hc := HX.out w1 (hup _ HB.out)
  obtain ⟨hc0, hc1, hc2⟩ := hc
  clear hb hup hsz2
  go_wp2_with fail
  refine (HF.out _).mono ?_
  rintro e w2 ⟨rfl, hb⟩
  have HB2 : Hid (Below (w.heap.size + 2) ((w.alloc (.cells #[.slice a0 n0 c0, .slice a1 n1 c1, .slice a2 n2 c2] 39)).alloc (.cells #[.int .i64 x0, .int .i64 x1, .int .i64 x2] 44)) w2) := Lib.hid (HB.out.trans (hb.mono (HSZ.out _ HB.out)))
  clear hb hc0 hc1 hc2 HF HB
  by_cases h100 : 100 < t.size
  · have hd : decide ((100 : Int) < (t.size : Int)) = true := by simp; omega
    clear h100
    go_wp2_with fail
    refine (awakeS_any _ (HG.out _ (HUP.out _ HB2.out)).1).mono ?_
    rintro e w4 ⟨rfl, hb⟩
    have HB4 : Hid (Below (w.heap.size + 2) ((w.alloc (.cells #[.slice a0 n0 c0, .slice a1 n1 c1, .slice a2 n2 c2] 39)).alloc (.cells #[.int .i64 x0, .int .i64 x1, .int .i64 x2] 44)) w4) := Lib.hid (HB2.out.trans (hb.mono (HSZ.out _ HB2.out)))
    clear hb
    go_wp2
    go_ret
    exact ⟨rfl, (HG.out _ (HUP.out _ HB4.out)).2.2.1⟩
  · have hd : decide ((100 : Int) < (t.size : Int)) = false := by simp; omega
    clear h100
    have hc := HXA.out w2 HB2.out
    obtain ⟨hc0, hc1, hc2⟩ := hc
    go_wp2_with fail
    refine (HD1.out _ (HG.out _ (HUP.out _ HB2.out)).1).mono ?_
    rintro e w4 ⟨v1, rfl, hS1, hb⟩
    have HB4 : Hid (Below (w.heap.size + 2) ((w.alloc (.cells #[.slice a0 n0 c0, .slice a1 n1 c1, .slice a2 n2 c2] 39)).alloc (.cells #[.int .i64 x0, .int .i64 x1, .int .i64 x2] 44)) w4) := Lib.hid (HB2.out.trans (hb.mono (HSZ.out _ HB2.out)))
    have HS1 := Lib.hid hS1
    obtain ⟨p0, m0, d0, p1, m1, d1, p2, m2, d2, rfl, _, _, _⟩ := hS1
    unfold sv at HS1 ⊢
    have HXP := Lib.hid (@boxed w4 p0 p1 p2 m0 d0 m1 d1 m2 d2 39)
    have HB5 : Hid (Below (w.heap.size + 2) ((w.alloc (.cells #[.slice a0 n0 c0, .slice a1 n1 c1, .slice a2 n2 c2] 39)).alloc (.cells #[.int .i64 x0, .int .i64 x1, .int .i64 x2] 44)) (w4.alloc (.cells #[.slice p0 m0 d0, .slice p1 m1 d1, .slice p2 m2 d2] 39))) := Lib.hid (HB4.out.alloc (HSZ.out _ HB4.out) _)
    clear hb hc0 hc1 hc2 HD1
    have hc := HXA.out _ HB5.out
    obtain ⟨hc0, hc1, hc2⟩ := hc
    go_wp2_with fail
    refine (HD2.out _).mono ?_
    rintro e w5 ⟨v2, rfl, hS2, hb⟩
    have HB6 : Hid (Below (w.heap.size + 2) ((w.alloc (.cells #[.slice a0 n0 c0, .slice a1 n1 c1, .slice a2 n2 c2] 39)).alloc (.cells #[.int .i64 x0, .int .i64 x1, .int .i64 x2] 44)) w5) := Lib.hid (HB5.out.trans (hb.mono (HSZ.out _ HB5.out)))
    have HP5 : Hid (Below (w4.heap.size + 1) (w4.alloc (.cells #[.slice p0 m0 d0, .slice p1 m1 d1, .slice p2 m2 d2] 39)) w5) := Lib.hid (hb.mono (by simp))
    have HS2 := Lib.hid hS2
    obtain ⟨r0, k0, e0, r1, k1, e1, r2, k2, e2, rfl, _, _, _⟩ := hS2
    unfold sv at HS2 ⊢
    have HXQ := Lib.hid (@boxed w5 r0 r1 r2 k0 e0 k1 e1 k2 e2 39)
    clear hb hc0 hc1 hc2 HD2
    have HALL : Hid (∀ W, Below (w5.heap.size + 1) (w5.alloc (.cells #[.slice r0 k0 e0, .slice r1 k1 e1, .slice r2 k2 e2] 39)) W → (W.cell? ⟨w.heap.size, 0, none⟩ = some (.slice a0 n0 c0) ∧ W.cell? ⟨w.heap.size, 1, none⟩ = some (.slice a1 n1 c1) ∧ W.cell? ⟨w.heap.size, 2, none⟩ = some (.slice a2 n2 c2) ∧ W.cell? ⟨w4.heap.size, 0, none⟩ = some (.slice p0 m0 d0) ∧ W.cell? ⟨w4.heap.size, 1, none⟩ = some (.slice p1 m1 d1) ∧ W.cell? ⟨w4.heap.size, 2, none⟩ = some (.slice p2 m2 d2) ∧ W.cell? ⟨w5.heap.size, 0, none⟩ = some (.slice r0 k0 e0) ∧ W.cell? ⟨w5.heap.size, 1, none⟩ = some (.slice r1 k1 e1) ∧ W.cell? ⟨w5.heap.size, 2, none⟩ = some (.slice r2 k2 e2) ∧ Hid (Below (w5.heap.size + 1) (w5.alloc (.cells #[.slice r0 k0 e0, .slice r1 k1 e1, .slice r2 k2 e2] 39)) W)) ∧ EnvS W ∧ SigR W W.heap.size (.agg #[.slice a0 n0 c0, .slice a1 n1 c1, .slice a2 n2 c2]) A F X ∧ SigR W W.heap.size (.agg #[.slice p0 m0 d0, .slice p1 m1 d1, .slice p2 m2 d2]) A' F' X' ∧ SigR W W.heap.size (.agg #[.slice r0 k0 e0, .slice r1 k1 e1, .slice r2 k2 e2]) A' F' X' ∧ Below w.heap.size w W ∧ w5.heap.size + 1 ≤ W.heap.size) := Lib.hid (fun W hW => by
      have h5 : Below w5.heap.size w5 W := ((Below.refl _ w5).alloc (Nat.le_refl _) _).trans (hW.mono (by omega))
      have h4s : w4.heap.size + 1 ≤ w5.heap.size := by have := HP5.out.size; simpa using this
      have h4 : Below w4.heap.size w4 W := ((Below.refl _ w4).alloc (Nat.le_refl _) _).trans ((HP5.out.mono (by omega)).trans (h5.mono (by omega)))
      have hP : Below (w4.heap.size + 1) (w4.alloc (.cells #[.slice p0 m0 d0, .slice p1 m1 d1, .slice p2 m2 d2] 39)) W := HP5.out.trans (h5.mono h4s)
      have h6 : Below (w.heap.size + 2) ((w.alloc (.cells #[.slice a0 n0 c0, .slice a1 n1 c1, .slice a2 n2 c2] 39)).alloc (.cells #[.int .i64 x0, .int .i64 x1, .int .i64 x2] 44)) W := HB6.out.trans (h5.mono (HSZ.out _ HB6.out))
      have hg := HG.out W (HUP.out _ h6)
      have c1 := HX.out W (HUP.out _ h6)
      have c2 := HXP.out W hP
      have c3 := HXQ.out W hW
      exact ⟨⟨c1.1, c1.2.1, c1.2.2, c2.1, c2.2.1, c2.2.2, c3.1, c3.2.1, c3.2.2, Lib.hid hW⟩, hg.1, hg.2.1, HS1.out.on h4, HS2.out.on h5, hg.2.2.1, by have := hW.size; simpa using this⟩)
    clear HS1 HS2 HXP HXQ HB2 HB4 HB5 HB6 HP5
    obtain ⟨z0, hz0⟩ : ∃ z, numV A F X A t = z := ⟨_, rfl⟩
    obtain ⟨z1, hz1⟩ : ∃ z, numV A F X F t = z := ⟨_, rfl⟩
    obtain ⟨z2, hz2⟩ : ∃ z, numV A F X X t = z := ⟨_, rfl⟩
    have K0 : Hid (∀ W, Hid (Below (w5.heap.size + 1) (w5.alloc (.cells #[.slice r0 k0 e0, .slice r1 k1 e1, .slice r2 k2 e2] 39)) W) → Calls Tryd.prog 35 #[.agg #[.slice p0 m0 d0, .slice p1 m1 d1, .slice p2 m2 d2], .agg #[.slice r0 k0 e0, .slice r1 k1 e1, .slice r2 k2 e2]] W fun e W' => e = .returned (.bool true) ∧ (W'.cell? ⟨w.heap.size, 0, none⟩ = some (.slice a0 n0 c0) ∧ W'.cell? ⟨w.heap.size, 1, none⟩ = some (.slice a1 n1 c1) ∧ W'.cell? ⟨w.heap.size, 2, none⟩ = some (.slice a2 n2 c2) ∧ W'.cell? ⟨w4.heap.size, 0, none⟩ = some (.slice p0 m0 d0) ∧ W'.cell? ⟨w4.heap.size, 1, none⟩ = some (.slice p1 m1 d1) ∧ W'.cell? ⟨w4.heap.size, 2, none⟩ = some (.slice p2 m2 d2) ∧ W'.cell? ⟨w5.heap.size, 0, none⟩ = some (.slice r0 k0 e0) ∧ W'.cell? ⟨w5.heap.size, 1, none⟩ = some (.slice r1 k1 e1) ∧ W'.cell? ⟨w5.heap.size, 2, none⟩ = some (.slice r2 k2 e2) ∧ Hid (Below (w5.heap.size + 1) (w5.alloc (.cells #[.slice r0 k0 e0, .slice r1 k1 e1, .slice r2 k2 e2] 39)) W'))) := Lib.hid (fun W hW => by
      have hA := HALL.out W hW.out
      exact (pSame_any _ _ A' F' X' W hA.2.2.2.1 hA.2.2.2.2.1).mono fun e w' ⟨h1, h2⟩ => ⟨h1, (HALL.out _ (hW.out.trans (h2.mono hA.2.2.2.2.2.2))).1⟩)
    have K1a : Hid (∀ W, Hid (Below (w5.heap.size + 1) (w5.alloc (.cells #[.slice r0 k0 e0, .slice r1 k1 e1, .slice r2 k2 e2] 39)) W) → Calls Tryd.prog 36 #[.agg #[.slice a0 n0 c0, .slice a1 n1 c1, .slice a2 n2 c2], .string t] W fun e W' => e = .returned (.int .i64 z0) ∧ (W'.cell? ⟨w.heap.size, 0, none⟩ = some (.slice a0 n0 c0) ∧ W'.cell? ⟨w.heap.size, 1, none⟩ = some (.slice a1 n1 c1) ∧ W'.cell? ⟨w.heap.size, 2, none⟩ = some (.slice a2 n2 c2) ∧ W'.cell? ⟨w4.heap.size, 0, none⟩ = some (.slice p0 m0 d0) ∧ W'.cell? ⟨w4.heap.size, 1, none⟩ = some (.slice p1 m1 d1) ∧ W'.cell? ⟨w4.heap.size, 2, none⟩ = some (.slice p2 m2 d2) ∧ W'.cell? ⟨w5.heap.size, 0, none⟩ = some (.slice r0 k0 e0) ∧ W'.cell? ⟨w5.heap.size, 1, none⟩ = some (.slice r1 k1 e1) ∧ W'.cell? ⟨w5.heap.size, 2, none⟩ = some (.slice r2 k2 e2) ∧ Hid (Below (w5.heap.size + 1) (w5.alloc (.cells #[.slice r0 k0 e0, .slice r1 k1 e1, .slice r2 k2 e2] 39)) W'))) := Lib.hid (fun W hW => by
      have hA := HALL.out W hW.out
      exact (pAgent_any _ A F X t W hA.2.2.1 hA.2.1).mono fun e w' ⟨h1, h2⟩ => ⟨by rw [h1, hz0], (HALL.out _ (hW.out.trans (h2.mono hA.2.2.2.2.2.2))).1⟩)
    have K1b : Hid (∀ W, Hid (Below (w5.heap.size + 1) (w5.alloc (.cells #[.slice r0 k0 e0, .slice r1 k1 e1, .slice r2 k2 e2] 39)) W) → Calls Tryd.prog 37 #[.agg #[.slice a0 n0 c0, .slice a1 n1 c1, .slice a2 n2 c2], .string t] W fun e W' => e = .returned (.int .i64 z0) ∧ (W'.cell? ⟨w.heap.size, 0, none⟩ = some (.slice a0 n0 c0) ∧ W'.cell? ⟨w.heap.size, 1, none⟩ = some (.slice a1 n1 c1) ∧ W'.cell? ⟨w.heap.size, 2, none⟩ = some (.slice a2 n2 c2) ∧ W'.cell? ⟨w4.heap.size, 0, none⟩ = some (.slice p0 m0 d0) ∧ W'.cell? ⟨w4.heap.size, 1, none⟩ = some (.slice p1 m1 d1) ∧ W'.cell? ⟨w4.heap.size, 2, none⟩ = some (.slice p2 m2 d2) ∧ W'.cell? ⟨w5.heap.size, 0, none⟩ = some (.slice r0 k0 e0) ∧ W'.cell? ⟨w5.heap.size, 1, none⟩ = some (.slice r1 k1 e1) ∧ W'.cell? ⟨w5.heap.size, 2, none⟩ = some (.slice r2 k2 e2) ∧ Hid (Below (w5.heap.size + 1) (w5.alloc (.cells #[.slice r0 k0 e0, .slice r1 k1 e1, .slice r2 k2 e2] 39)) W'))) := Lib.hid (fun W hW => by
      have hA := HALL.out W hW.out
      exact (pRefAgent_any _ A F X t W hA.2.2.1).mono fun e w' ⟨h1, h2⟩ => ⟨by rw [h1, hz0], (HALL.out _ (hW.out.trans (h2.mono hA.2.2.2.2.2.2))).1⟩)
    have K2a : Hid (∀ W, Hid (Below (w5.heap.size + 1) (w5.alloc (.cells #[.slice r0 k0 e0, .slice r1 k1 e1, .slice r2 k2 e2] 39)) W) → Calls Tryd.prog 38 #[.agg #[.slice a0 n0 c0, .slice a1 n1 c1, .slice a2 n2 c2], .string t] W fun e W' => e = .returned (.int .i64 z1) ∧ (W'.cell? ⟨w.heap.size, 0, none⟩ = some (.slice a0 n0 c0) ∧ W'.cell? ⟨w.heap.size, 1, none⟩ = some (.slice a1 n1 c1) ∧ W'.cell? ⟨w.heap.size, 2, none⟩ = some (.slice a2 n2 c2) ∧ W'.cell? ⟨w4.heap.size, 0, none⟩ = some (.slice p0 m0 d0) ∧ W'.cell? ⟨w4.heap.size, 1, none⟩ = some (.slice p1 m1 d1) ∧ W'.cell? ⟨w4.heap.size, 2, none⟩ = some (.slice p2 m2 d2) ∧ W'.cell? ⟨w5.heap.size, 0, none⟩ = some (.slice r0 k0 e0) ∧ W'.cell? ⟨w5.heap.size, 1, none⟩ = some (.slice r1 k1 e1) ∧ W'.cell? ⟨w5.heap.size, 2, none⟩ = some (.slice r2 k2 e2) ∧ Hid (Below (w5.heap.size + 1) (w5.alloc (.cells #[.slice r0 k0 e0, .slice r1 k1 e1, .slice r2 k2 e2] 39)) W'))) := Lib.hid (fun W hW => by
      have hA := HALL.out W hW.out
      exact (pFact_any _ A F X t W hA.2.2.1 hA.2.1).mono fun e w' ⟨h1, h2⟩ => ⟨by rw [h1, hz1], (HALL.out _ (hW.out.trans (h2.mono hA.2.2.2.2.2.2))).1⟩)
    have K2b : Hid (∀ W, Hid (Below (w5.heap.size + 1) (w5.alloc (.cells #[.slice r0 k0 e0, .slice r1 k1 e1, .slice r2 k2 e2] 39)) W) → Calls Tryd.prog 39 #[.agg #[.slice a0 n0 c0, .slice a1 n1 c1, .slice a2 n2 c2], .string t] W fun e W' => e = .returned (.int .i64 z1) ∧ (W'.cell? ⟨w.heap.size, 0, none⟩ = some (.slice a0 n0 c0) ∧ W'.cell? ⟨w.heap.size, 1, none⟩ = some (.slice a1 n1 c1) ∧ W'.cell? ⟨w.heap.size, 2, none⟩ = some (.slice a2 n2 c2) ∧ W'.cell? ⟨w4.heap.size, 0, none⟩ = some (.slice p0 m0 d0) ∧ W'.cell? ⟨w4.heap.size, 1, none⟩ = some (.slice p1 m1 d1) ∧ W'.cell? ⟨w4.heap.size, 2, none⟩ = some (.slice p2 m2 d2) ∧ W'.cell? ⟨w5.heap.size, 0, none⟩ = some (.slice r0 k0 e0) ∧ W'.cell? ⟨w5.heap.size, 1, none⟩ = some (.slice r1 k1 e1) ∧ W'.cell? ⟨w5.heap.size, 2, none⟩ = some (.slice r2 k2 e2) ∧ Hid (Below (w5.heap.size + 1) (w5.alloc (.cells #[.slice r0 k0 e0, .slice r1 k1 e1, .slice r2 k2 e2] 39)) W'))) := Lib.hid (fun W hW => by
      have hA := HALL.out W hW.out
      exact (pRefFact_any _ A F X t W hA.2.2.1).mono fun e w' ⟨h1, h2⟩ => ⟨by rw [h1, hz1], (HALL.out _ (hW.out.trans (h2.mono hA.2.2.2.2.2.2))).1⟩)
    have K3a : Hid (∀ W, Hid (Below (w5.heap.size + 1) (w5.alloc (.cells #[.slice r0 k0 e0, .slice r1 k1 e1, .slice r2 k2 e2] 39)) W) → Calls Tryd.prog 40 #[.agg #[.slice a0 n0 c0, .slice a1 n1 c1, .slice a2 n2 c2], .string t] W fun e W' => e = .returned (.int .i64 z2) ∧ (W'.cell? ⟨w.heap.size, 0, none⟩ = some (.slice a0 n0 c0) ∧ W'.cell? ⟨w.heap.size, 1, none⟩ = some (.slice a1 n1 c1) ∧ W'.cell? ⟨w.heap.size, 2, none⟩ = some (.slice a2 n2 c2) ∧ W'.cell? ⟨w4.heap.size, 0, none⟩ = some (.slice p0 m0 d0) ∧ W'.cell? ⟨w4.heap.size, 1, none⟩ = some (.slice p1 m1 d1) ∧ W'.cell? ⟨w4.heap.size, 2, none⟩ = some (.slice p2 m2 d2) ∧ W'.cell? ⟨w5.heap.size, 0, none⟩ = some (.slice r0 k0 e0) ∧ W'.cell? ⟨w5.heap.size, 1, none⟩ = some (.slice r1 k1 e1) ∧ W'.cell? ⟨w5.heap.size, 2, none⟩ = some (.slice r2 k2 e2) ∧ Hid (Below (w5.heap.size + 1) (w5.alloc (.cells #[.slice r0 k0 e0, .slice r1 k1 e1, .slice r2 k2 e2] 39)) W'))) := Lib.hid (fun W hW => by
      have hA := HALL.out W hW.out
      exact (pAction_any _ A F X t W hA.2.2.1 hA.2.1).mono fun e w' ⟨h1, h2⟩ => ⟨by rw [h1, hz2], (HALL.out _ (hW.out.trans (h2.mono hA.2.2.2.2.2.2))).1⟩)
    have K3b : Hid (∀ W, Hid (Below (w5.heap.size + 1) (w5.alloc (.cells #[.slice r0 k0 e0, .slice r1 k1 e1, .slice r2 k2 e2] 39)) W) → Calls Tryd.prog 41 #[.agg #[.slice a0 n0 c0, .slice a1 n1 c1, .slice a2 n2 c2], .string t] W fun e W' => e = .returned (.int .i64 z2) ∧ (W'.cell? ⟨w.heap.size, 0, none⟩ = some (.slice a0 n0 c0) ∧ W'.cell? ⟨w.heap.size, 1, none⟩ = some (.slice a1 n1 c1) ∧ W'.cell? ⟨w.heap.size, 2, none⟩ = some (.slice a2 n2 c2) ∧ W'.cell? ⟨w4.heap.size, 0, none⟩ = some (.slice p0 m0 d0) ∧ W'.cell? ⟨w4.heap.size, 1, none⟩ = some (.slice p1 m1 d1) ∧ W'.cell? ⟨w4.heap.size, 2, none⟩ = some (.slice p2 m2 d2) ∧ W'.cell? ⟨w5.heap.size, 0, none⟩ = some (.slice r0 k0 e0) ∧ W'.cell? ⟨w5.heap.size, 1, none⟩ = some (.slice r1 k1 e1) ∧ W'.cell? ⟨w5.heap.size, 2, none⟩ = some (.slice r2 k2 e2) ∧ Hid (Below (w5.heap.size + 1) (w5.alloc (.cells #[.slice r0 k0 e0, .slice r1 k1 e1, .slice r2 k2 e2] 39)) W'))) := Lib.hid (fun W hW => by
      have hA := HALL.out W hW.out
      exact (pRefAction_any _ A F X t W hA.2.2.1).mono fun e w' ⟨h1, h2⟩ => ⟨by rw [h1, hz2], (HALL.out _ (hW.out.trans (h2.mono hA.2.2.2.2.2.2))).1⟩)
    have q0 : (E == E) = true := by simp
    have q1 : (z0 == z0) = true := by simp
    have q2 : (z1 == z1) = true := by simp
    have q3 : (z2 == z2) = true := by simp
    have HFIN : Hid (∀ W, Hid (Below (w5.heap.size + 1) (w5.alloc (.cells #[.slice r0 k0 e0, .slice r1 k1 e1, .slice r2 k2 e2] 39)) W) → Below w.heap.size w W) := Lib.hid (fun W hW => (HALL.out W hW.out).2.2.2.2.2.1)
    have hI := (HALL.out _ (Below.refl _ _)).1
    obtain ⟨g0, g1, g2, g3, g4, g5, g6, g7, g8, _⟩ := hI
    have hI2 : Hid (Below (w5.heap.size + 1) (w5.alloc (.cells #[.slice r0 k0 e0, .slice r1 k1 e1, .slice r2 k2 e2] 39)) (w5.alloc (.cells #[.slice r0 k0 e0, .slice r1 k1 e1, .slice r2 k2 e2] 39)).drew) := Lib.hid (Below.refl _ _).drew
    clear hz0 hz1 hz2 htm ht HALL HG HX HXA HUP HSZ HEX
    go_upto_region 5 with fail
    generalize hWZ : (w5.alloc (.cells #[.slice r0 k0 e0, .slice r1 k1 e1, .slice r2 k2 e2] 39)) = WZ at *
    clear hWZ
    go_region_held3 (fun W => (W.cell? ⟨w.heap.size, 0, none⟩ = some (.slice a0 n0 c0) ∧ W.cell? ⟨w.heap.size, 1, none⟩ = some (.slice a1 n1 c1) ∧ W.cell? ⟨w.heap.size, 2, none⟩ = some (.slice a2 n2 c2) ∧ W.cell? ⟨w4.heap.size, 0, none⟩ = some (.slice p0 m0 d0) ∧ W.cell? ⟨w4.heap.size, 1, none⟩ = some (.slice p1 m1 d1) ∧ W.cell? ⟨w4.heap.size, 2, none⟩ = some (.slice p2 m2 d2) ∧ W.cell? ⟨w5.heap.size, 0, none⟩ = some (.slice r0 k0 e0) ∧ W.cell? ⟨w5.heap.size, 1, none⟩ = some (.slice r1 k1 e1) ∧ W.cell? ⟨w5.heap.size, 2, none⟩ = some (.slice r2 k2 e2) ∧ Hid (Below (w5.heap.size + 1) WZ W))) (first | assumption | (refine ⟨?_, ?_, ?_, ?_, ?_, ?_, ?_, ?_, ?_, ?_⟩ <;> assumption) | go_keep)
      (first
        | (go_at_call 35; refine (K0.out _ ?_).mono ?_; (first | assumption | simp [*]); rintro e W' ⟨rfl, h1, h2, h3, h4, h5, h6, h7, h8, h9, h10⟩)
        | (go_at_call 36; refine (K1a.out _ ?_).mono ?_; (first | assumption | simp [*]); rintro e W' ⟨rfl, h1, h2, h3, h4, h5, h6, h7, h8, h9, h10⟩)
        | (go_at_call 37; refine (K1b.out _ ?_).mono ?_; (first | assumption | simp [*]); rintro e W' ⟨rfl, h1, h2, h3, h4, h5, h6, h7, h8, h9, h10⟩)
        | (go_at_call 38; refine (K2a.out _ ?_).mono ?_; (first | assumption | simp [*]); rintro e W' ⟨rfl, h1, h2, h3, h4, h5, h6, h7, h8, h9, h10⟩)
        | (go_at_call 39; refine (K2b.out _ ?_).mono ?_; (first | assumption | simp [*]); rintro e W' ⟨rfl, h1, h2, h3, h4, h5, h6, h7, h8, h9, h10⟩)
        | (go_at_call 40; refine (K3a.out _ ?_).mono ?_; (first | assumption | simp [*]); rintro e W' ⟨rfl, h1, h2, h3, h4, h5, h6, h7, h8, h9, h10⟩)
        | (go_at_call 41; refine (K3b.out _ ?_).mono ?_; (first | assumption | simp [*]); rintro e W' ⟨rfl, h1, h2, h3, h4, h5, h6, h7, h8, h9, h10⟩))
    all_goals go_wp2
    all_goals go_ret
    all_goals (refine ⟨rfl, HFIN.out _ ?_⟩; assumption)
theorem walk (a0 : Option Addr) (n0 c0 : Nat) (a1 : Option Addr) (n1 c1 : Nat) (a2 : Option Addr) (n2 c2 : Nat) (A F X : List ByteArray) (t : ByteArray) (x0 x1 x2 : Int) (w : World) (s0 : SL0 w a0 n0 c0 A) (s1 : SL0 w a1 n1 c1 F) (s2 : SL0 w a2 n2 c2 X) (ht : t.size ≤ maxLen) (hE : EnvS w) :
    Calls Tryd.prog 6 #[sv a0 n0 c0 a1 n1 c1 a2 n2 c2, .string t, .agg #[.int .i64 x0, .int .i64 x1, .int .i64 x2]] w fun e w' => e = .returned (.bool true) ∧ Below w.heap.size w w' := by
  by_cases hf : n0 ≤ 12 ∧ n1 ≤ 12 ∧ n2 ≤ 12
  · exact walk_few a0 n0 c0 a1 n1 c1 a2 n2 c2 A F X t x0 x1 x2 w ⟨_, _, _, _, _, _, _, _, _, rfl, s0.small (by omega), s1.small (by omega), s2.small (by omega)⟩ hE hf.1 hf.2.1 hf.2.2 ht
  · refine walk_many a0 n0 c0 a1 n1 c1 a2 n2 c2 t x0 x1 x2 w s0.2.2.1 s1.2.2.1 s2.2.2.1 hE ?_
    by_cases h0 : n0 ≤ 12 <;> by_cases h1 : n1 ≤ 12 <;> by_cases h2 : n2 ≤ 12 <;> simp [h0, h1, h2]
    exact hf ⟨h0, h1, h2⟩
set_option maxRecDepth 100000 in
theorem contract (H : Type) (enc : TypeId × Value → H) (W : World) (base : Nat) (args : Array Value) (ds gs : List (DataW H)) (before : List MemPlace)
    (hval : ∀ (j : Nat) t v, Tryd.f6.params[j]? = some t → args[j]? = some v → Value.okWide Tryd.prog W .any base t v)
    (hW : DataW.Whole enc Tryd.prog Tryd.f6.params.toList Rows.signatureFindsSpec.vars false W args.toList ds gs before) (hE : EnvS W) :
    Calls Tryd.prog 6 args W fun e W' => ∃ v, e = .returned v ∧ Rows.signatureFindsSpec.post enc Tryd.prog Tryd.f6 false true false false W args v W' := by
  have hW' := hW
  obtain ⟨p, q, hA0, hV, rfl, hfz, hnd⟩ := hW
  have hA : DataW.TrodAll enc Tryd.prog W 0 (fun _ => true) true Tryd.f6.params.toList args.toList ds p := hA0
  rw [Tryd.params6] at hA hval
  obtain ⟨v0, vs0, d0, ds0, p0, q0, hargs, rfl, rfl, h0, r0⟩ := trodAll_cons hA
  obtain ⟨v1, vs1, d1, ds1, p1, q1, rfl, rfl, rfl, h1, r1⟩ := trodAll_cons r0
  obtain ⟨v2, vs2, d2, ds2, p2, q2, rfl, rfl, rfl, h2, r2⟩ := trodAll_cons r1
  obtain ⟨rfl, rfl, rfl⟩ := trodAll_nil r2
  obtain rfl : args = #[v0, v1, v2] := by cases args; simp_all
  obtain ⟨rfl, rfl⟩ := trodVars_none hV
  obtain ⟨a0, n0, c0, a1, n1, c1, a2, n2, c2, A, F, X, rfl, s0, s1, s2⟩ := open_sig (hval 0 39 v0 rfl rfl) h0
  have k0 := h0
  have lt0 : ∀ x ∈ p0, x.block < W.heap.size := by obtain ⟨m, hm⟩ := k0; exact DataW.trod_lt m _ _ _ hm
  obtain ⟨t, rfl, rfl, rfl, w1⟩ := open_string Tryd.underlying9 (hval 1 9 v1 rfl rfl) h1
  obtain ⟨x0, x1, x2, rfl⟩ := open_arr (hval 2 44 v2 rfl rfl) h2
  have k2 := h2
  have lt2 : ∀ x ∈ p2, x.block < W.heap.size := by obtain ⟨m, hm⟩ := k2; exact DataW.trod_lt m _ _ _ hm
  clear hA0
  simp only [List.append_nil] at hW'
  have hwalk := walk a0 n0 c0 a1 n1 c1 a2 n2 c2 A F X t x0 x1 x2 W s0 s1 s2 w1 hE
  refine hwalk.mono fun e W' ⟨he, hg⟩ => ?_
  subst he
  exact ⟨_, rfl, _, _, _, [], _, [], hW', trodAll_mk1 (shut_bool Tryd.underlying4 _), (trodAll_cons_mk (Below.trod laidOut (by kernel_rfl) (of_decide_eq_true (by kernel_rfl)) k0 hg lt0) (trodAll_cons_mk (shut_string Tryd.underlying9 w1) (trodAll_cons_mk (Below.trod laidOut (by kernel_rfl) (of_decide_eq_true (by kernel_rfl)) k2 hg lt2) trodAll_mk0))), rfl, hg.frame _, fun h => by cases h⟩
theorem reads (os : Os) {H : Type} (enc : TypeId × Value → H) : ∃ places, DataW.whole enc Tryd.prog ((laidW os).forCall (fun _ _ => 0) ⟨#[], #[.agg #[.slice none 0 0, .slice none 0 0, .slice none 0 0], .string ⟨#[]⟩, .agg #[.int .i64 0, .int .i64 0, .int .i64 0]], []⟩).memory Tryd.f6.params.toList Rows.signatureFindsSpec.vars false #[(.agg #[.slice none 0 0, .slice none 0 0, .slice none 0 0] : Value), (.string ⟨#[]⟩ : Value), (.agg #[.int .i64 0, .int .i64 0, .int .i64 0] : Value)].toList 8 = some ([.agg [.nil, .nil, .nil], .lit (.string []), .agg [.lit (.int .i64 0), .lit (.int .i64 0), .lit (.int .i64 0)]], [], places) :=
  ⟨[], by kernel_rfl⟩
set_option maxRecDepth 100000 in
theorem lifted (os : Os) (started : os.Started) (H : Type) (enc : TypeId × Value → H) (F : Stop.Interp) :
    ReturnsInHanded {} Tryd.checked os 6 .any ((OpenSpec.ofChange Rows.signatureFindsSpec).preRow enc Tryd.prog Tryd.f6 Rows.signatureFindsRow.domain false Rows.signatureFindsRow.laid) (((OpenSpec.ofChange Rows.signatureFindsSpec).at F).post enc Tryd.prog Tryd.f6 false true false false) := by
  obtain ⟨places, hx⟩ := reads os enc
  refine returnsInHanded_of_row (C := Tryd.checked) (s := OpenSpec.ofChange Rows.signatureFindsSpec) own started (by kernel_rfl) Tryd.func6
    (witness_row_atRef (enc := enc) (C := Tryd.checked) false (laidW os) #[.agg #[.slice none 0 0, .slice none 0 0, .slice none 0 0], .string ⟨#[]⟩, .agg #[.int .i64 0, .int .i64 0, .int .i64 0]] (laidW_os os) (vars_ok os _) (heap_ok os _) (by kernel_rfl)
      (OpenSpec.preRow_of_cond 8 hx (by kernel_rfl) (fun k hk => by cases hk) (by kernel_rfl) (laid_met os _))) ?_
  intro W base args ds gs before hval hW _ _ _ hL hsh _
  exact contract H enc W base args ds gs before hval hW (env_of hL hsh)
theorem said : Rows.SignatureFindsSaid :=
  OpenClaim.holds_of_cond 6 Tryd.f6 rfl rfl rfl rfl rfl rfl rfl ⟨rfl, rfl, rfl, rfl, rfl⟩ rfl rfl rfl rfl rfl (by kernel_rfl) Tryd.func6 (by kernel_rfl)
    (of_decide_eq_true (by kernel_rfl)) (by unfold Func.isWrapper; first | (rw [if_pos (by decide +kernel)]; kernel_rfl) | (rw [if_neg (by decide +kernel)]; exact ⟨rfl, rfl⟩))
    (fun os started H enc _ F => by rw [OpenClaim.pre_eq_preRow]; exact lifted os started H enc F)
theorem plain (f : FuncId) (fn : Func) (hf : Tryd.pinned.checked.prog.funcNamed "witting/wittinglaw04.SignatureFinds" = some f) (hfn : Tryd.pinned.checked.prog.funcs[f]? = some fn) :
    false = Tryd.pinned.checked.prog.looks [] ∧ ∀ (j : Nat) t, fn.params[j]? = some t → Tryd.pinned.checked.prog.wantsStandIn t = false := by
  obtain rfl : f = 6 := Option.some.inj ((show Tryd.prog.funcNamed "witting/wittinglaw04.SignatureFinds" = some 6 by kernel_rfl).symm.trans hf) |>.symm
  obtain rfl : fn = Tryd.f6 := (Option.some.inj (Tryd.func6.symm.trans hfn)).symm
  refine ⟨no_looks, fun j t ht => ?_⟩
  rw [Tryd.params6] at ht
  have hm : t ∈ [39, 9, 44] := by simpa using Array.mem_of_getElem? ht
  have hall : ([39, 9, 44].all fun u => !Tryd.prog.wantsStandIn u) = true := by kernel_rfl
  exact (show Tryd.prog.wantsStandIn t = false by simpa using List.all_eq_true.1 hall t hm)
theorem card : Rows.SignatureFindsCardSaid :=
  Claim7.holds_tied_plain_at .later [] _ _ _ _ said (fun _ h => by cases h) (by kernel_rfl) (fun _ h => by cases h) signatureFinds_row_tie rfl ⟨rfl, rfl⟩ (by kernel_rfl) rfl plain (by kernel_rfl)
#print axioms card
end Go.Proofs.YtichhbnpdhfimaaDoor.signatureFinds
