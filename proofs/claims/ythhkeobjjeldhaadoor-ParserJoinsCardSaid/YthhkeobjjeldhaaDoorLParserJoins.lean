/- ParserJoins (P6.4): two texts in parentheses with an operator between them are read as this operator of their formulas, or are too large. Conditions: the package variables that the row lists hold what the program's text lays in them. -/
import Derived.Test.YthhkeobjjeldhaaDoorJl
import Derived.Test.YthhkeobjjeldhaaDoorJp
namespace Go.Proofs.YthhkeobjjeldhaaDoor.parserJoins
open Go.ChangeShapes Go.WideShapes Go.ChangeAt Go.RowKit Go.Proofs.YthhkeobjjeldhaaDoor Go.Proofs.YthhkeobjjeldhaaDoor.par Go.Proofs.Ws Go.Maps
open Go.ChangeMaps (open_string shut_string)
set_option maxRecDepth 100000 in
set_option maxHeartbeats 4000000 in
theorem walk_long (a b : ByteArray) (g : Nat) (w : World) (hl : 200 < a.size ∨ 200 < b.size) (ha : a.size ≤ maxLen) (hb' : b.size ≤ maxLen) (hE : EnvS w) :
    Calls Tryd.prog 6 #[.string a, .string b, .int .u8 g] w fun e w' => e = .returned (.bool true) ∧ Below w.heap.size w w' := by
  unfold maxLen at ha hb'
  by_cases h1 : 200 < a.size
  · have d1 : decide ((200 : Int) < (a.size : Int)) = true := decide_eq_true (by omega)
    have d2 : decide (200 < a.size) = true := decide_eq_true h1
    clear hl h1
    have HE : Hid (∀ W, Below w.heap.size w W → EnvS W) := Lib.hid (fun W h => hE.below h)
    clear hE
    go_enter Tryd.func6, Tryd.ntmps6
    go_wp2_with fail
    refine (kExample_any w).mono ?_
    rintro e w1 ⟨g0, g1, g2, rfl, hS, hb⟩
    have HX := Lib.hid (@boxed w1 (some ⟨g0, 0, none⟩) (some ⟨g1, 0, none⟩) (some ⟨g2, 0, none⟩) 2 2 3 3 1 1 31)
    have HG : Hid (∀ W, Below (w1.heap.size + 1) (w1.alloc (.cells #[.slice (some ⟨g0, 0, none⟩) 2 2, .slice (some ⟨g1, 0, none⟩) 3 3, .slice (some ⟨g2, 0, none⟩) 1 1] 31)) W → EnvS W ∧ SigR W W.heap.size (.agg #[.slice (some ⟨g0, 0, none⟩) 2 2, .slice (some ⟨g1, 0, none⟩) 3 3, .slice (some ⟨g2, 0, none⟩) 1 1]) exA exF exX ∧ Below w.heap.size w W ∧ w1.heap.size + 1 ≤ W.heap.size) := Lib.hid (fun W hW => by
      have h1 : Below w1.heap.size w1 W := ((Below.refl _ w1).alloc (Nat.le_refl _) _).trans (hW.mono (by omega))
      have h2 : Below w.heap.size w W := hb.trans (h1.mono hb.size)
      exact ⟨HE.out W h2, hS.on h1, h2, by have := hW.size; simpa using this⟩)
    have HB0 := Lib.hid (Below.refl (w1.heap.size + 1) (w1.alloc (.cells #[.slice (some ⟨g0, 0, none⟩) 2 2, .slice (some ⟨g1, 0, none⟩) 3 3, .slice (some ⟨g2, 0, none⟩) 1 1] 31)))
    clear hS hb HE
    go_wp2_with fail
    refine (awake_any _ (HG.out _ HB0.out).1).mono ?_
    rintro e v9 ⟨rfl, hb⟩
    have HB9 := Lib.hid (HB0.out.trans (hb.mono (HG.out _ HB0.out).2.2.2))
    clear hb
    go_wp2
    go_ret
    exact ⟨rfl, (HG.out _ HB9.out).2.2.1⟩
  · have h2 : 200 < b.size := hl.resolve_left h1
    have d1 : decide ((200 : Int) < (a.size : Int)) = false := decide_eq_false (by omega)
    have d2 : decide (200 < a.size) = false := decide_eq_false h1
    have d3 : decide ((200 : Int) < (b.size : Int)) = true := decide_eq_true (by omega)
    have d4 : decide (200 < b.size) = true := decide_eq_true h2
    clear hl h1 h2
    have HE : Hid (∀ W, Below w.heap.size w W → EnvS W) := Lib.hid (fun W h => hE.below h)
    clear hE
    go_enter Tryd.func6, Tryd.ntmps6
    go_wp2_with fail
    refine (kExample_any w).mono ?_
    rintro e w1 ⟨g0, g1, g2, rfl, hS, hb⟩
    have HX := Lib.hid (@boxed w1 (some ⟨g0, 0, none⟩) (some ⟨g1, 0, none⟩) (some ⟨g2, 0, none⟩) 2 2 3 3 1 1 31)
    have HG : Hid (∀ W, Below (w1.heap.size + 1) (w1.alloc (.cells #[.slice (some ⟨g0, 0, none⟩) 2 2, .slice (some ⟨g1, 0, none⟩) 3 3, .slice (some ⟨g2, 0, none⟩) 1 1] 31)) W → EnvS W ∧ SigR W W.heap.size (.agg #[.slice (some ⟨g0, 0, none⟩) 2 2, .slice (some ⟨g1, 0, none⟩) 3 3, .slice (some ⟨g2, 0, none⟩) 1 1]) exA exF exX ∧ Below w.heap.size w W ∧ w1.heap.size + 1 ≤ W.heap.size) := Lib.hid (fun W hW => by
      have h1 : Below w1.heap.size w1 W := ((Below.refl _ w1).alloc (Nat.le_refl _) _).trans (hW.mono (by omega))
      have h2 : Below w.heap.size w W := hb.trans (h1.mono hb.size)
      exact ⟨HE.out W h2, hS.on h1, h2, by have := hW.size; simpa using this⟩)
    have HB0 := Lib.hid (Below.refl (w1.heap.size + 1) (w1.alloc (.cells #[.slice (some ⟨g0, 0, none⟩) 2 2, .slice (some ⟨g1, 0, none⟩) 3 3, .slice (some ⟨g2, 0, none⟩) 1 1] 31)))
    clear hS hb HE
    go_wp2_with fail
    refine (awake_any _ (HG.out _ HB0.out).1).mono ?_
    rintro e v9 ⟨rfl, hb⟩
    have HB9 := Lib.hid (HB0.out.trans (hb.mono (HG.out _ HB0.out).2.2.2))
    clear hb
    go_wp2
    go_ret
    exact ⟨rfl, (HG.out _ HB9.out).2.2.1⟩
set_option maxRecDepth 100000 in
set_option maxHeartbeats 8000000 in
theorem walk0 (a b : ByteArray) (g : Nat) (w : World) (ha : a.size ≤ 200) (hb' : b.size ≤ 200) (hg : g % 6 = 0) (hE : EnvS w) :
    Calls Tryd.prog 6 #[.string a, .string b, .int .u8 g] w fun e w' => e = .returned (.bool true) ∧ Below w.heap.size w w' := by
  have d1 : decide ((200 : Int) < (a.size : Int)) = false := decide_eq_false (by omega)
  have d2 : decide (200 < a.size) = false := decide_eq_false (by omega)
  have d3 : decide ((200 : Int) < (b.size : Int)) = false := decide_eq_false (by omega)
  have d4 : decide (200 < b.size) = false := decide_eq_false (by omega)
  have hr : (g : Int) % 6 = 0 := by omega
  have HJ := Lib.hid (fun h1 h2 => join_parse (A := exA) (F := exF) (X := exX) (a := a) (b := b) (sg := ⟨#[38]⟩) (op := 5) (.head _) ha hb' h1 h2)
  have hTs : (joinT a b ⟨#[38]⟩).size ≤ maxLen := by
    have e1 : (⟨#[40]⟩ : ByteArray).size = 1 := rfl
    have e2 : (⟨#[41]⟩ : ByteArray).size = 1 := rfl
    have e3 : (⟨#[38]⟩ : ByteArray).size ≤ 5 := by decide
    unfold joinT maxLen
    simp only [ByteArray.size_append]
    omega
  have hlA := parseV_len exA exF exX a
  have hlB := parseV_len exA exF exX b
  have hlT := parseV_len exA exF exX (joinT a b ⟨#[38]⟩)
  have HPA := Lib.hid (fun v0 v1 v2 W hS hE => kParse_own (some ⟨v0, 0, none⟩) 2 2 (some ⟨v1, 0, none⟩) 3 3 (some ⟨v2, 0, none⟩) 1 1 exA exF exX a W hS hE (by unfold maxLen; omega))
  have HPB := Lib.hid (fun v0 v1 v2 W hS hE => kParse_own (some ⟨v0, 0, none⟩) 2 2 (some ⟨v1, 0, none⟩) 3 3 (some ⟨v2, 0, none⟩) 1 1 exA exF exX b W hS hE (by unfold maxLen; omega))
  have HPT := Lib.hid (fun v0 v1 v2 W hS hE => kParse_own (some ⟨v0, 0, none⟩) 2 2 (some ⟨v1, 0, none⟩) 3 3 (some ⟨v2, 0, none⟩) 1 1 exA exF exX (joinT a b ⟨#[38]⟩) W hS hE hTs)
  have hT : (⟨#[40]⟩ ++ a ++ ⟨#[41]⟩ ++ ⟨#[38]⟩ ++ ⟨#[40]⟩ ++ b ++ ⟨#[41]⟩ : ByteArray) = joinT a b ⟨#[38]⟩ := rfl
  generalize hPA : parseV exA exF exX a = PA at *
  generalize hPB : parseV exA exF exX b = PB at *
  generalize hPT : parseV exA exF exX (joinT a b ⟨#[38]⟩) = PT at *
  clear hPA hPB hPT
  obtain ⟨la, pa, ea⟩ := PA
  obtain ⟨lb, pb, eb⟩ := PB
  obtain ⟨lt, pt, et⟩ := PT
  dsimp only at HJ hlA hlB hlT HPA HPB HPT
  generalize joinT a b ⟨#[38]⟩ = T at *
  have HE : Hid (∀ W, Below w.heap.size w W → EnvS W) := Lib.hid (fun W h => hE.below h)
  clear hE
  go_enter Tryd.func6, Tryd.ntmps6
  go_wp2_with fail
  refine (kExample_any w).mono ?_
  rintro e w1 ⟨g0, g1, g2, rfl, hS, hb⟩
  have HX := Lib.hid (@boxed w1 (some ⟨g0, 0, none⟩) (some ⟨g1, 0, none⟩) (some ⟨g2, 0, none⟩) 2 2 3 3 1 1 31)
  have HG : Hid (∀ W, Below (w1.heap.size + 1) (w1.alloc (.cells #[.slice (some ⟨g0, 0, none⟩) 2 2, .slice (some ⟨g1, 0, none⟩) 3 3, .slice (some ⟨g2, 0, none⟩) 1 1] 31)) W → EnvS W ∧ SigR W W.heap.size (.agg #[.slice (some ⟨g0, 0, none⟩) 2 2, .slice (some ⟨g1, 0, none⟩) 3 3, .slice (some ⟨g2, 0, none⟩) 1 1]) exA exF exX ∧ Below w.heap.size w W ∧ w1.heap.size + 1 ≤ W.heap.size) := Lib.hid (fun W hW => by
    have h1 : Below w1.heap.size w1 W := ((Below.refl _ w1).alloc (Nat.le_refl _) _).trans (hW.mono (by omega))
    have h2 : Below w.heap.size w W := hb.trans (h1.mono hb.size)
    exact ⟨HE.out W h2, hS.on h1, h2, by have := hW.size; simpa using this⟩)
  have HB0 := Lib.hid (Below.refl (w1.heap.size + 1) (w1.alloc (.cells #[.slice (some ⟨g0, 0, none⟩) 2 2, .slice (some ⟨g1, 0, none⟩) 3 3, .slice (some ⟨g2, 0, none⟩) 1 1] 31)))
  clear hS hb HE
  obtain ⟨q0, q1, q2⟩ := HX.out _ HB0.out
  go_wp2_with fail
  refine (HPA.out _ _ _ _ (HG.out _ HB0.out).2.1 (HG.out _ HB0.out).1).mono ?_
  rintro e w2 ⟨A1, c1, rfl, hO, hb⟩
  have HR1 := Lib.hid (Reads.of_own hO)
  have HB2 := Lib.hid (HB0.out.trans (hb.mono (HG.out _ HB0.out).2.2.2))
  clear hO hb HPA q0 q1 q2 HB0
  obtain ⟨q0, q1, q2⟩ := HX.out _ HB2.out
  go_wp2_with fail
  refine (HPB.out _ _ _ _ (HG.out _ HB2.out).2.1 (HG.out _ HB2.out).1).mono ?_
  rintro e w3 ⟨A2, c2, rfl, hO, hb⟩
  have HR2 := Lib.hid (Reads.of_own hO)
  have HB3 := Lib.hid (HB2.out.trans (hb.mono (HG.out _ HB2.out).2.2.2))
  have HRa := Lib.hid ((HR1.out.below hb).more hb.size)
  clear hO hb HPB q0 q1 q2 HB2 HR1
  have HB4 : Hid (Below (w1.heap.size + 1) (w1.alloc (.cells #[.slice (some ⟨g0, 0, none⟩) 2 2, .slice (some ⟨g1, 0, none⟩) 3 3, .slice (some ⟨g2, 0, none⟩) 1 1] 31)) (w3.alloc (.cells #[.string ⟨#[38]⟩, .string ⟨#[124]⟩, .string ⟨#[45, 62]⟩, .string ⟨#[60, 45, 62]⟩, .string ⟨#[117, 110, 116, 105, 108]⟩, .string ⟨#[115, 105, 110, 99, 101]⟩] 9))) := Lib.hid (HB3.out.alloc (HG.out _ HB3.out).2.2.2 _)
  have hb4 : Below w3.heap.size w3 (w3.alloc (.cells #[.string ⟨#[38]⟩, .string ⟨#[124]⟩, .string ⟨#[45, 62]⟩, .string ⟨#[60, 45, 62]⟩, .string ⟨#[117, 110, 116, 105, 108]⟩, .string ⟨#[115, 105, 110, 99, 101]⟩] 9)) := (Below.refl _ w3).alloc (Nat.le_refl _) _
  have HRb := Lib.hid ((HRa.out.below hb4).more hb4.size)
  have HRc := Lib.hid ((HR2.out.below hb4).more hb4.size)
  obtain ⟨q0, q1, q2⟩ := HX.out _ HB4.out
  clear hb4 HRa HR2
  go_wp2_with fail
  generalize w3.alloc (.cells #[.string ⟨#[38]⟩, .string ⟨#[124]⟩, .string ⟨#[45, 62]⟩, .string ⟨#[60, 45, 62]⟩, .string ⟨#[117, 110, 116, 105, 108]⟩, .string ⟨#[115, 105, 110, 99, 101]⟩] 9) = w4 at *
  refine (HPT.out _ _ _ w4 (HG.out _ HB4.out).2.1 (HG.out _ HB4.out).1).mono ?_
  rintro e w5 ⟨A3, c3, rfl, hO, hb⟩
  have HR3 := Lib.hid (Reads.of_own hO)
  have HB5 := Lib.hid (HB4.out.trans (hb.mono (HG.out _ HB4.out).2.2.2))
  have HRd := Lib.hid ((HRb.out.below hb).more hb.size)
  have HRe := Lib.hid ((HRc.out.below hb).more hb.size)
  clear hO hb HPT q0 q1 q2 HB4 HRb HRc hT hTs
  by_cases ha0 : ea = 0
  · by_cases hb0 : eb = 0
    · subst ha0
      subst hb0
      rcases HJ.out rfl rfl with ⟨j1, j2⟩ | ⟨j1, j2⟩
      · subst j1
        obtain ⟨hw1, hw2⟩ : wrap64 ((la.length : Int) + (lb.length : Int)) = (la.length : Int) + (lb.length : Int) ∧ IntKind.i64.wrap ((la.length : Int) + (lb.length : Int)) = (la.length : Int) + (lb.length : Int) := ⟨by rw [wrap64_small (by omega) (by omega)], by rw [wrap_small (by omega) (by omega)]⟩
        have d5 : decide ((200 : Int) ≤ (la.length : Int) + (lb.length : Int)) = true := decide_eq_true (by omega)
        have d6 : decide (200 ≤ la.length + lb.length) = true := decide_eq_true j2
        generalize la.length = La at *
        generalize lb.length = Lb at *
        clear j2 HJ hlA hlB hlT HRd HRe HR3
        go_wp2_with fail
        refine (awake_any _ (HG.out _ HB5.out).1).mono ?_
        rintro e v9 ⟨rfl, hb⟩
        have HB9 := Lib.hid (HB5.out.trans (hb.mono (HG.out _ HB5.out).2.2.2))
        clear hb
        go_wp2
        go_ret
        exact ⟨rfl, (HG.out _ HB9.out).2.2.1⟩
      · subst j1
        have HC := Lib.hid (pAnd_any la A1 la.length c1 lb A2 lb.length c2 w5 HRd.out (by unfold maxLen; omega) HRe.out (by unfold maxLen; omega))
        have HSM := Lib.hid (fun A4 c4 W (h1 : Reads W W.heap.size 6 A3 lt.length (nds lt)) (h2 : Reads W W.heap.size 6 A4 (buildF ⟨5, 0, 0, 0, 0, 0⟩ [la, lb]).length (nds (buildF ⟨5, 0, 0, 0, 0, 0⟩ [la, lb]))) => pSame_any lt (buildF ⟨5, 0, 0, 0, 0, 0⟩ [la, lb]) A3 A4 lt.length _ c3 c4 W h1 h2 (by unfold maxLen; omega) (by have := buildF_len6 ⟨5, 0, 0, 0, 0, 0⟩ [la, lb]; unfold maxLen; omega))
        rw [show sameF lt (buildF ⟨5, 0, 0, 0, 0, 0⟩ [la, lb]) = true from j2] at HSM
        generalize buildF ⟨5, 0, 0, 0, 0, 0⟩ [la, lb] = q at *
        clear HJ hlA hlB hlT j2 HRd HRe
        go_wp2_with fail
        refine (HC.out).mono ?_
        rintro e w6 ⟨A4, c4, rfl, hR4, hb⟩
        have HB6 := Lib.hid (HB5.out.trans (hb.mono (HG.out _ HB5.out).2.2.2))
        have HS6 := Lib.hid (HSM.out A4 c4 w6 ((HR3.out.below hb).more hb.size) hR4)
        clear hb hR4 HC HSM HR3 HB5
        go_wp2_with fail
        refine (HS6.out).mono ?_
        rintro e w7 ⟨rfl, hb⟩
        have HB7 := Lib.hid (HB6.out.trans (hb.mono (HG.out _ HB6.out).2.2.2))
        clear hb HS6 HB6
        go_wp2_with fail
        refine (awake_any _ (HG.out _ HB7.out).1).mono ?_
        rintro e v9 ⟨rfl, hb⟩
        have HB9 := Lib.hid (HB7.out.trans (hb.mono (HG.out _ HB7.out).2.2.2))
        clear hb
        go_wp2
        go_ret
        exact ⟨rfl, (HG.out _ HB9.out).2.2.1⟩
    · have hne : (eb != 0) = true := by rw [bne_iff_ne]; exact hb0
      subst ha0
      clear HJ hlA hlB hlT HRd HRe HR3 hb0
      go_wp2_with fail
      refine (awake_any _ (HG.out _ HB5.out).1).mono ?_
      rintro e v9 ⟨rfl, hb⟩
      have HB9 := Lib.hid (HB5.out.trans (hb.mono (HG.out _ HB5.out).2.2.2))
      clear hb
      go_wp2
      go_ret
      exact ⟨rfl, (HG.out _ HB9.out).2.2.1⟩
  · have hne : (ea != 0) = true := by rw [bne_iff_ne]; exact ha0
    clear HJ hlA hlB hlT HRd HRe HR3 ha0
    go_wp2_with fail
    refine (awake_any _ (HG.out _ HB5.out).1).mono ?_
    rintro e v9 ⟨rfl, hb⟩
    have HB9 := Lib.hid (HB5.out.trans (hb.mono (HG.out _ HB5.out).2.2.2))
    clear hb
    go_wp2
    go_ret
    exact ⟨rfl, (HG.out _ HB9.out).2.2.1⟩
set_option maxRecDepth 100000 in
set_option maxHeartbeats 8000000 in
theorem walk1 (a b : ByteArray) (g : Nat) (w : World) (ha : a.size ≤ 200) (hb' : b.size ≤ 200) (hg : g % 6 = 1) (hE : EnvS w) :
    Calls Tryd.prog 6 #[.string a, .string b, .int .u8 g] w fun e w' => e = .returned (.bool true) ∧ Below w.heap.size w w' := by
  have d1 : decide ((200 : Int) < (a.size : Int)) = false := decide_eq_false (by omega)
  have d2 : decide (200 < a.size) = false := decide_eq_false (by omega)
  have d3 : decide ((200 : Int) < (b.size : Int)) = false := decide_eq_false (by omega)
  have d4 : decide (200 < b.size) = false := decide_eq_false (by omega)
  have hr : (g : Int) % 6 = 1 := by omega
  have HJ := Lib.hid (fun h1 h2 => join_parse (A := exA) (F := exF) (X := exX) (a := a) (b := b) (sg := ⟨#[124]⟩) (op := 6) (.tail _ (.head _)) ha hb' h1 h2)
  have hTs : (joinT a b ⟨#[124]⟩).size ≤ maxLen := by
    have e1 : (⟨#[40]⟩ : ByteArray).size = 1 := rfl
    have e2 : (⟨#[41]⟩ : ByteArray).size = 1 := rfl
    have e3 : (⟨#[124]⟩ : ByteArray).size ≤ 5 := by decide
    unfold joinT maxLen
    simp only [ByteArray.size_append]
    omega
  have hlA := parseV_len exA exF exX a
  have hlB := parseV_len exA exF exX b
  have hlT := parseV_len exA exF exX (joinT a b ⟨#[124]⟩)
  have HPA := Lib.hid (fun v0 v1 v2 W hS hE => kParse_own (some ⟨v0, 0, none⟩) 2 2 (some ⟨v1, 0, none⟩) 3 3 (some ⟨v2, 0, none⟩) 1 1 exA exF exX a W hS hE (by unfold maxLen; omega))
  have HPB := Lib.hid (fun v0 v1 v2 W hS hE => kParse_own (some ⟨v0, 0, none⟩) 2 2 (some ⟨v1, 0, none⟩) 3 3 (some ⟨v2, 0, none⟩) 1 1 exA exF exX b W hS hE (by unfold maxLen; omega))
  have HPT := Lib.hid (fun v0 v1 v2 W hS hE => kParse_own (some ⟨v0, 0, none⟩) 2 2 (some ⟨v1, 0, none⟩) 3 3 (some ⟨v2, 0, none⟩) 1 1 exA exF exX (joinT a b ⟨#[124]⟩) W hS hE hTs)
  have hT : (⟨#[40]⟩ ++ a ++ ⟨#[41]⟩ ++ ⟨#[124]⟩ ++ ⟨#[40]⟩ ++ b ++ ⟨#[41]⟩ : ByteArray) = joinT a b ⟨#[124]⟩ := rfl
  generalize hPA : parseV exA exF exX a = PA at *
  generalize hPB : parseV exA exF exX b = PB at *
  generalize hPT : parseV exA exF exX (joinT a b ⟨#[124]⟩) = PT at *
  clear hPA hPB hPT
  obtain ⟨la, pa, ea⟩ := PA
  obtain ⟨lb, pb, eb⟩ := PB
  obtain ⟨lt, pt, et⟩ := PT
  dsimp only at HJ hlA hlB hlT HPA HPB HPT
  generalize joinT a b ⟨#[124]⟩ = T at *
  have HE : Hid (∀ W, Below w.heap.size w W → EnvS W) := Lib.hid (fun W h => hE.below h)
  clear hE
  go_enter Tryd.func6, Tryd.ntmps6
  go_wp2_with fail
  refine (kExample_any w).mono ?_
  rintro e w1 ⟨g0, g1, g2, rfl, hS, hb⟩
  have HX := Lib.hid (@boxed w1 (some ⟨g0, 0, none⟩) (some ⟨g1, 0, none⟩) (some ⟨g2, 0, none⟩) 2 2 3 3 1 1 31)
  have HG : Hid (∀ W, Below (w1.heap.size + 1) (w1.alloc (.cells #[.slice (some ⟨g0, 0, none⟩) 2 2, .slice (some ⟨g1, 0, none⟩) 3 3, .slice (some ⟨g2, 0, none⟩) 1 1] 31)) W → EnvS W ∧ SigR W W.heap.size (.agg #[.slice (some ⟨g0, 0, none⟩) 2 2, .slice (some ⟨g1, 0, none⟩) 3 3, .slice (some ⟨g2, 0, none⟩) 1 1]) exA exF exX ∧ Below w.heap.size w W ∧ w1.heap.size + 1 ≤ W.heap.size) := Lib.hid (fun W hW => by
    have h1 : Below w1.heap.size w1 W := ((Below.refl _ w1).alloc (Nat.le_refl _) _).trans (hW.mono (by omega))
    have h2 : Below w.heap.size w W := hb.trans (h1.mono hb.size)
    exact ⟨HE.out W h2, hS.on h1, h2, by have := hW.size; simpa using this⟩)
  have HB0 := Lib.hid (Below.refl (w1.heap.size + 1) (w1.alloc (.cells #[.slice (some ⟨g0, 0, none⟩) 2 2, .slice (some ⟨g1, 0, none⟩) 3 3, .slice (some ⟨g2, 0, none⟩) 1 1] 31)))
  clear hS hb HE
  obtain ⟨q0, q1, q2⟩ := HX.out _ HB0.out
  go_wp2_with fail
  refine (HPA.out _ _ _ _ (HG.out _ HB0.out).2.1 (HG.out _ HB0.out).1).mono ?_
  rintro e w2 ⟨A1, c1, rfl, hO, hb⟩
  have HR1 := Lib.hid (Reads.of_own hO)
  have HB2 := Lib.hid (HB0.out.trans (hb.mono (HG.out _ HB0.out).2.2.2))
  clear hO hb HPA q0 q1 q2 HB0
  obtain ⟨q0, q1, q2⟩ := HX.out _ HB2.out
  go_wp2_with fail
  refine (HPB.out _ _ _ _ (HG.out _ HB2.out).2.1 (HG.out _ HB2.out).1).mono ?_
  rintro e w3 ⟨A2, c2, rfl, hO, hb⟩
  have HR2 := Lib.hid (Reads.of_own hO)
  have HB3 := Lib.hid (HB2.out.trans (hb.mono (HG.out _ HB2.out).2.2.2))
  have HRa := Lib.hid ((HR1.out.below hb).more hb.size)
  clear hO hb HPB q0 q1 q2 HB2 HR1
  have HB4 : Hid (Below (w1.heap.size + 1) (w1.alloc (.cells #[.slice (some ⟨g0, 0, none⟩) 2 2, .slice (some ⟨g1, 0, none⟩) 3 3, .slice (some ⟨g2, 0, none⟩) 1 1] 31)) (w3.alloc (.cells #[.string ⟨#[38]⟩, .string ⟨#[124]⟩, .string ⟨#[45, 62]⟩, .string ⟨#[60, 45, 62]⟩, .string ⟨#[117, 110, 116, 105, 108]⟩, .string ⟨#[115, 105, 110, 99, 101]⟩] 9))) := Lib.hid (HB3.out.alloc (HG.out _ HB3.out).2.2.2 _)
  have hb4 : Below w3.heap.size w3 (w3.alloc (.cells #[.string ⟨#[38]⟩, .string ⟨#[124]⟩, .string ⟨#[45, 62]⟩, .string ⟨#[60, 45, 62]⟩, .string ⟨#[117, 110, 116, 105, 108]⟩, .string ⟨#[115, 105, 110, 99, 101]⟩] 9)) := (Below.refl _ w3).alloc (Nat.le_refl _) _
  have HRb := Lib.hid ((HRa.out.below hb4).more hb4.size)
  have HRc := Lib.hid ((HR2.out.below hb4).more hb4.size)
  obtain ⟨q0, q1, q2⟩ := HX.out _ HB4.out
  clear hb4 HRa HR2
  go_wp2_with fail
  generalize w3.alloc (.cells #[.string ⟨#[38]⟩, .string ⟨#[124]⟩, .string ⟨#[45, 62]⟩, .string ⟨#[60, 45, 62]⟩, .string ⟨#[117, 110, 116, 105, 108]⟩, .string ⟨#[115, 105, 110, 99, 101]⟩] 9) = w4 at *
  refine (HPT.out _ _ _ w4 (HG.out _ HB4.out).2.1 (HG.out _ HB4.out).1).mono ?_
  rintro e w5 ⟨A3, c3, rfl, hO, hb⟩
  have HR3 := Lib.hid (Reads.of_own hO)
  have HB5 := Lib.hid (HB4.out.trans (hb.mono (HG.out _ HB4.out).2.2.2))
  have HRd := Lib.hid ((HRb.out.below hb).more hb.size)
  have HRe := Lib.hid ((HRc.out.below hb).more hb.size)
  clear hO hb HPT q0 q1 q2 HB4 HRb HRc hT hTs
  by_cases ha0 : ea = 0
  · by_cases hb0 : eb = 0
    · subst ha0
      subst hb0
      rcases HJ.out rfl rfl with ⟨j1, j2⟩ | ⟨j1, j2⟩
      · subst j1
        obtain ⟨hw1, hw2⟩ : wrap64 ((la.length : Int) + (lb.length : Int)) = (la.length : Int) + (lb.length : Int) ∧ IntKind.i64.wrap ((la.length : Int) + (lb.length : Int)) = (la.length : Int) + (lb.length : Int) := ⟨by rw [wrap64_small (by omega) (by omega)], by rw [wrap_small (by omega) (by omega)]⟩
        have d5 : decide ((200 : Int) ≤ (la.length : Int) + (lb.length : Int)) = true := decide_eq_true (by omega)
        have d6 : decide (200 ≤ la.length + lb.length) = true := decide_eq_true j2
        generalize la.length = La at *
        generalize lb.length = Lb at *
        clear j2 HJ hlA hlB hlT HRd HRe HR3
        go_wp2_with fail
        refine (awake_any _ (HG.out _ HB5.out).1).mono ?_
        rintro e v9 ⟨rfl, hb⟩
        have HB9 := Lib.hid (HB5.out.trans (hb.mono (HG.out _ HB5.out).2.2.2))
        clear hb
        go_wp2
        go_ret
        exact ⟨rfl, (HG.out _ HB9.out).2.2.1⟩
      · subst j1
        have HC := Lib.hid (pOr_any la A1 la.length c1 lb A2 lb.length c2 w5 HRd.out (by unfold maxLen; omega) HRe.out (by unfold maxLen; omega))
        have HSM := Lib.hid (fun A4 c4 W (h1 : Reads W W.heap.size 6 A3 lt.length (nds lt)) (h2 : Reads W W.heap.size 6 A4 (buildF ⟨6, 0, 0, 0, 0, 0⟩ [la, lb]).length (nds (buildF ⟨6, 0, 0, 0, 0, 0⟩ [la, lb]))) => pSame_any lt (buildF ⟨6, 0, 0, 0, 0, 0⟩ [la, lb]) A3 A4 lt.length _ c3 c4 W h1 h2 (by unfold maxLen; omega) (by have := buildF_len6 ⟨6, 0, 0, 0, 0, 0⟩ [la, lb]; unfold maxLen; omega))
        rw [show sameF lt (buildF ⟨6, 0, 0, 0, 0, 0⟩ [la, lb]) = true from j2] at HSM
        generalize buildF ⟨6, 0, 0, 0, 0, 0⟩ [la, lb] = q at *
        clear HJ hlA hlB hlT j2 HRd HRe
        go_wp2_with fail
        refine (HC.out).mono ?_
        rintro e w6 ⟨A4, c4, rfl, hR4, hb⟩
        have HB6 := Lib.hid (HB5.out.trans (hb.mono (HG.out _ HB5.out).2.2.2))
        have HS6 := Lib.hid (HSM.out A4 c4 w6 ((HR3.out.below hb).more hb.size) hR4)
        clear hb hR4 HC HSM HR3 HB5
        go_wp2_with fail
        refine (HS6.out).mono ?_
        rintro e w7 ⟨rfl, hb⟩
        have HB7 := Lib.hid (HB6.out.trans (hb.mono (HG.out _ HB6.out).2.2.2))
        clear hb HS6 HB6
        go_wp2_with fail
        refine (awake_any _ (HG.out _ HB7.out).1).mono ?_
        rintro e v9 ⟨rfl, hb⟩
        have HB9 := Lib.hid (HB7.out.trans (hb.mono (HG.out _ HB7.out).2.2.2))
        clear hb
        go_wp2
        go_ret
        exact ⟨rfl, (HG.out _ HB9.out).2.2.1⟩
    · have hne : (eb != 0) = true := by rw [bne_iff_ne]; exact hb0
      subst ha0
      clear HJ hlA hlB hlT HRd HRe HR3 hb0
      go_wp2_with fail
      refine (awake_any _ (HG.out _ HB5.out).1).mono ?_
      rintro e v9 ⟨rfl, hb⟩
      have HB9 := Lib.hid (HB5.out.trans (hb.mono (HG.out _ HB5.out).2.2.2))
      clear hb
      go_wp2
      go_ret
      exact ⟨rfl, (HG.out _ HB9.out).2.2.1⟩
  · have hne : (ea != 0) = true := by rw [bne_iff_ne]; exact ha0
    clear HJ hlA hlB hlT HRd HRe HR3 ha0
    go_wp2_with fail
    refine (awake_any _ (HG.out _ HB5.out).1).mono ?_
    rintro e v9 ⟨rfl, hb⟩
    have HB9 := Lib.hid (HB5.out.trans (hb.mono (HG.out _ HB5.out).2.2.2))
    clear hb
    go_wp2
    go_ret
    exact ⟨rfl, (HG.out _ HB9.out).2.2.1⟩
set_option maxRecDepth 100000 in
set_option maxHeartbeats 8000000 in
theorem walk2 (a b : ByteArray) (g : Nat) (w : World) (ha : a.size ≤ 200) (hb' : b.size ≤ 200) (hg : g % 6 = 2) (hE : EnvS w) :
    Calls Tryd.prog 6 #[.string a, .string b, .int .u8 g] w fun e w' => e = .returned (.bool true) ∧ Below w.heap.size w w' := by
  have d1 : decide ((200 : Int) < (a.size : Int)) = false := decide_eq_false (by omega)
  have d2 : decide (200 < a.size) = false := decide_eq_false (by omega)
  have d3 : decide ((200 : Int) < (b.size : Int)) = false := decide_eq_false (by omega)
  have d4 : decide (200 < b.size) = false := decide_eq_false (by omega)
  have hr : (g : Int) % 6 = 2 := by omega
  have HJ := Lib.hid (fun h1 h2 => join_parse (A := exA) (F := exF) (X := exX) (a := a) (b := b) (sg := ⟨#[45, 62]⟩) (op := 7) (.tail _ (.tail _ (.head _))) ha hb' h1 h2)
  have hTs : (joinT a b ⟨#[45, 62]⟩).size ≤ maxLen := by
    have e1 : (⟨#[40]⟩ : ByteArray).size = 1 := rfl
    have e2 : (⟨#[41]⟩ : ByteArray).size = 1 := rfl
    have e3 : (⟨#[45, 62]⟩ : ByteArray).size ≤ 5 := by decide
    unfold joinT maxLen
    simp only [ByteArray.size_append]
    omega
  have hlA := parseV_len exA exF exX a
  have hlB := parseV_len exA exF exX b
  have hlT := parseV_len exA exF exX (joinT a b ⟨#[45, 62]⟩)
  have HPA := Lib.hid (fun v0 v1 v2 W hS hE => kParse_own (some ⟨v0, 0, none⟩) 2 2 (some ⟨v1, 0, none⟩) 3 3 (some ⟨v2, 0, none⟩) 1 1 exA exF exX a W hS hE (by unfold maxLen; omega))
  have HPB := Lib.hid (fun v0 v1 v2 W hS hE => kParse_own (some ⟨v0, 0, none⟩) 2 2 (some ⟨v1, 0, none⟩) 3 3 (some ⟨v2, 0, none⟩) 1 1 exA exF exX b W hS hE (by unfold maxLen; omega))
  have HPT := Lib.hid (fun v0 v1 v2 W hS hE => kParse_own (some ⟨v0, 0, none⟩) 2 2 (some ⟨v1, 0, none⟩) 3 3 (some ⟨v2, 0, none⟩) 1 1 exA exF exX (joinT a b ⟨#[45, 62]⟩) W hS hE hTs)
  have hT : (⟨#[40]⟩ ++ a ++ ⟨#[41]⟩ ++ ⟨#[45, 62]⟩ ++ ⟨#[40]⟩ ++ b ++ ⟨#[41]⟩ : ByteArray) = joinT a b ⟨#[45, 62]⟩ := rfl
  generalize hPA : parseV exA exF exX a = PA at *
  generalize hPB : parseV exA exF exX b = PB at *
  generalize hPT : parseV exA exF exX (joinT a b ⟨#[45, 62]⟩) = PT at *
  clear hPA hPB hPT
  obtain ⟨la, pa, ea⟩ := PA
  obtain ⟨lb, pb, eb⟩ := PB
  obtain ⟨lt, pt, et⟩ := PT
  dsimp only at HJ hlA hlB hlT HPA HPB HPT
  generalize joinT a b ⟨#[45, 62]⟩ = T at *
  have HE : Hid (∀ W, Below w.heap.size w W → EnvS W) := Lib.hid (fun W h => hE.below h)
  clear hE
  go_enter Tryd.func6, Tryd.ntmps6
  go_wp2_with fail
  refine (kExample_any w).mono ?_
  rintro e w1 ⟨g0, g1, g2, rfl, hS, hb⟩
  have HX := Lib.hid (@boxed w1 (some ⟨g0, 0, none⟩) (some ⟨g1, 0, none⟩) (some ⟨g2, 0, none⟩) 2 2 3 3 1 1 31)
  have HG : Hid (∀ W, Below (w1.heap.size + 1) (w1.alloc (.cells #[.slice (some ⟨g0, 0, none⟩) 2 2, .slice (some ⟨g1, 0, none⟩) 3 3, .slice (some ⟨g2, 0, none⟩) 1 1] 31)) W → EnvS W ∧ SigR W W.heap.size (.agg #[.slice (some ⟨g0, 0, none⟩) 2 2, .slice (some ⟨g1, 0, none⟩) 3 3, .slice (some ⟨g2, 0, none⟩) 1 1]) exA exF exX ∧ Below w.heap.size w W ∧ w1.heap.size + 1 ≤ W.heap.size) := Lib.hid (fun W hW => by
    have h1 : Below w1.heap.size w1 W := ((Below.refl _ w1).alloc (Nat.le_refl _) _).trans (hW.mono (by omega))
    have h2 : Below w.heap.size w W := hb.trans (h1.mono hb.size)
    exact ⟨HE.out W h2, hS.on h1, h2, by have := hW.size; simpa using this⟩)
  have HB0 := Lib.hid (Below.refl (w1.heap.size + 1) (w1.alloc (.cells #[.slice (some ⟨g0, 0, none⟩) 2 2, .slice (some ⟨g1, 0, none⟩) 3 3, .slice (some ⟨g2, 0, none⟩) 1 1] 31)))
  clear hS hb HE
  obtain ⟨q0, q1, q2⟩ := HX.out _ HB0.out
  go_wp2_with fail
  refine (HPA.out _ _ _ _ (HG.out _ HB0.out).2.1 (HG.out _ HB0.out).1).mono ?_
  rintro e w2 ⟨A1, c1, rfl, hO, hb⟩
  have HR1 := Lib.hid (Reads.of_own hO)
  have HB2 := Lib.hid (HB0.out.trans (hb.mono (HG.out _ HB0.out).2.2.2))
  clear hO hb HPA q0 q1 q2 HB0
  obtain ⟨q0, q1, q2⟩ := HX.out _ HB2.out
  go_wp2_with fail
  refine (HPB.out _ _ _ _ (HG.out _ HB2.out).2.1 (HG.out _ HB2.out).1).mono ?_
  rintro e w3 ⟨A2, c2, rfl, hO, hb⟩
  have HR2 := Lib.hid (Reads.of_own hO)
  have HB3 := Lib.hid (HB2.out.trans (hb.mono (HG.out _ HB2.out).2.2.2))
  have HRa := Lib.hid ((HR1.out.below hb).more hb.size)
  clear hO hb HPB q0 q1 q2 HB2 HR1
  have HB4 : Hid (Below (w1.heap.size + 1) (w1.alloc (.cells #[.slice (some ⟨g0, 0, none⟩) 2 2, .slice (some ⟨g1, 0, none⟩) 3 3, .slice (some ⟨g2, 0, none⟩) 1 1] 31)) (w3.alloc (.cells #[.string ⟨#[38]⟩, .string ⟨#[124]⟩, .string ⟨#[45, 62]⟩, .string ⟨#[60, 45, 62]⟩, .string ⟨#[117, 110, 116, 105, 108]⟩, .string ⟨#[115, 105, 110, 99, 101]⟩] 9))) := Lib.hid (HB3.out.alloc (HG.out _ HB3.out).2.2.2 _)
  have hb4 : Below w3.heap.size w3 (w3.alloc (.cells #[.string ⟨#[38]⟩, .string ⟨#[124]⟩, .string ⟨#[45, 62]⟩, .string ⟨#[60, 45, 62]⟩, .string ⟨#[117, 110, 116, 105, 108]⟩, .string ⟨#[115, 105, 110, 99, 101]⟩] 9)) := (Below.refl _ w3).alloc (Nat.le_refl _) _
  have HRb := Lib.hid ((HRa.out.below hb4).more hb4.size)
  have HRc := Lib.hid ((HR2.out.below hb4).more hb4.size)
  obtain ⟨q0, q1, q2⟩ := HX.out _ HB4.out
  clear hb4 HRa HR2
  go_wp2_with fail
  generalize w3.alloc (.cells #[.string ⟨#[38]⟩, .string ⟨#[124]⟩, .string ⟨#[45, 62]⟩, .string ⟨#[60, 45, 62]⟩, .string ⟨#[117, 110, 116, 105, 108]⟩, .string ⟨#[115, 105, 110, 99, 101]⟩] 9) = w4 at *
  refine (HPT.out _ _ _ w4 (HG.out _ HB4.out).2.1 (HG.out _ HB4.out).1).mono ?_
  rintro e w5 ⟨A3, c3, rfl, hO, hb⟩
  have HR3 := Lib.hid (Reads.of_own hO)
  have HB5 := Lib.hid (HB4.out.trans (hb.mono (HG.out _ HB4.out).2.2.2))
  have HRd := Lib.hid ((HRb.out.below hb).more hb.size)
  have HRe := Lib.hid ((HRc.out.below hb).more hb.size)
  clear hO hb HPT q0 q1 q2 HB4 HRb HRc hT hTs
  by_cases ha0 : ea = 0
  · by_cases hb0 : eb = 0
    · subst ha0
      subst hb0
      rcases HJ.out rfl rfl with ⟨j1, j2⟩ | ⟨j1, j2⟩
      · subst j1
        obtain ⟨hw1, hw2⟩ : wrap64 ((la.length : Int) + (lb.length : Int)) = (la.length : Int) + (lb.length : Int) ∧ IntKind.i64.wrap ((la.length : Int) + (lb.length : Int)) = (la.length : Int) + (lb.length : Int) := ⟨by rw [wrap64_small (by omega) (by omega)], by rw [wrap_small (by omega) (by omega)]⟩
        have d5 : decide ((200 : Int) ≤ (la.length : Int) + (lb.length : Int)) = true := decide_eq_true (by omega)
        have d6 : decide (200 ≤ la.length + lb.length) = true := decide_eq_true j2
        generalize la.length = La at *
        generalize lb.length = Lb at *
        clear j2 HJ hlA hlB hlT HRd HRe HR3
        go_wp2_with fail
        refine (awake_any _ (HG.out _ HB5.out).1).mono ?_
        rintro e v9 ⟨rfl, hb⟩
        have HB9 := Lib.hid (HB5.out.trans (hb.mono (HG.out _ HB5.out).2.2.2))
        clear hb
        go_wp2
        go_ret
        exact ⟨rfl, (HG.out _ HB9.out).2.2.1⟩
      · subst j1
        have HC := Lib.hid (pImp_any la A1 la.length c1 lb A2 lb.length c2 w5 HRd.out (by unfold maxLen; omega) HRe.out (by unfold maxLen; omega))
        have HSM := Lib.hid (fun A4 c4 W (h1 : Reads W W.heap.size 6 A3 lt.length (nds lt)) (h2 : Reads W W.heap.size 6 A4 (buildF ⟨7, 0, 0, 0, 0, 0⟩ [la, lb]).length (nds (buildF ⟨7, 0, 0, 0, 0, 0⟩ [la, lb]))) => pSame_any lt (buildF ⟨7, 0, 0, 0, 0, 0⟩ [la, lb]) A3 A4 lt.length _ c3 c4 W h1 h2 (by unfold maxLen; omega) (by have := buildF_len6 ⟨7, 0, 0, 0, 0, 0⟩ [la, lb]; unfold maxLen; omega))
        rw [show sameF lt (buildF ⟨7, 0, 0, 0, 0, 0⟩ [la, lb]) = true from j2] at HSM
        generalize buildF ⟨7, 0, 0, 0, 0, 0⟩ [la, lb] = q at *
        clear HJ hlA hlB hlT j2 HRd HRe
        go_wp2_with fail
        refine (HC.out).mono ?_
        rintro e w6 ⟨A4, c4, rfl, hR4, hb⟩
        have HB6 := Lib.hid (HB5.out.trans (hb.mono (HG.out _ HB5.out).2.2.2))
        have HS6 := Lib.hid (HSM.out A4 c4 w6 ((HR3.out.below hb).more hb.size) hR4)
        clear hb hR4 HC HSM HR3 HB5
        go_wp2_with fail
        refine (HS6.out).mono ?_
        rintro e w7 ⟨rfl, hb⟩
        have HB7 := Lib.hid (HB6.out.trans (hb.mono (HG.out _ HB6.out).2.2.2))
        clear hb HS6 HB6
        go_wp2_with fail
        refine (awake_any _ (HG.out _ HB7.out).1).mono ?_
        rintro e v9 ⟨rfl, hb⟩
        have HB9 := Lib.hid (HB7.out.trans (hb.mono (HG.out _ HB7.out).2.2.2))
        clear hb
        go_wp2
        go_ret
        exact ⟨rfl, (HG.out _ HB9.out).2.2.1⟩
    · have hne : (eb != 0) = true := by rw [bne_iff_ne]; exact hb0
      subst ha0
      clear HJ hlA hlB hlT HRd HRe HR3 hb0
      go_wp2_with fail
      refine (awake_any _ (HG.out _ HB5.out).1).mono ?_
      rintro e v9 ⟨rfl, hb⟩
      have HB9 := Lib.hid (HB5.out.trans (hb.mono (HG.out _ HB5.out).2.2.2))
      clear hb
      go_wp2
      go_ret
      exact ⟨rfl, (HG.out _ HB9.out).2.2.1⟩
  · have hne : (ea != 0) = true := by rw [bne_iff_ne]; exact ha0
    clear HJ hlA hlB hlT HRd HRe HR3 ha0
    go_wp2_with fail
    refine (awake_any _ (HG.out _ HB5.out).1).mono ?_
    rintro e v9 ⟨rfl, hb⟩
    have HB9 := Lib.hid (HB5.out.trans (hb.mono (HG.out _ HB5.out).2.2.2))
    clear hb
    go_wp2
    go_ret
    exact ⟨rfl, (HG.out _ HB9.out).2.2.1⟩
set_option maxRecDepth 100000 in
set_option maxHeartbeats 8000000 in
theorem walk3 (a b : ByteArray) (g : Nat) (w : World) (ha : a.size ≤ 200) (hb' : b.size ≤ 200) (hg : g % 6 = 3) (hE : EnvS w) :
    Calls Tryd.prog 6 #[.string a, .string b, .int .u8 g] w fun e w' => e = .returned (.bool true) ∧ Below w.heap.size w w' := by
  have d1 : decide ((200 : Int) < (a.size : Int)) = false := decide_eq_false (by omega)
  have d2 : decide (200 < a.size) = false := decide_eq_false (by omega)
  have d3 : decide ((200 : Int) < (b.size : Int)) = false := decide_eq_false (by omega)
  have d4 : decide (200 < b.size) = false := decide_eq_false (by omega)
  have hr : (g : Int) % 6 = 3 := by omega
  have HJ := Lib.hid (fun h1 h2 => join_parse (A := exA) (F := exF) (X := exX) (a := a) (b := b) (sg := ⟨#[60, 45, 62]⟩) (op := 8) (.tail _ (.tail _ (.tail _ (.head _)))) ha hb' h1 h2)
  have hTs : (joinT a b ⟨#[60, 45, 62]⟩).size ≤ maxLen := by
    have e1 : (⟨#[40]⟩ : ByteArray).size = 1 := rfl
    have e2 : (⟨#[41]⟩ : ByteArray).size = 1 := rfl
    have e3 : (⟨#[60, 45, 62]⟩ : ByteArray).size ≤ 5 := by decide
    unfold joinT maxLen
    simp only [ByteArray.size_append]
    omega
  have hlA := parseV_len exA exF exX a
  have hlB := parseV_len exA exF exX b
  have hlT := parseV_len exA exF exX (joinT a b ⟨#[60, 45, 62]⟩)
  have HPA := Lib.hid (fun v0 v1 v2 W hS hE => kParse_own (some ⟨v0, 0, none⟩) 2 2 (some ⟨v1, 0, none⟩) 3 3 (some ⟨v2, 0, none⟩) 1 1 exA exF exX a W hS hE (by unfold maxLen; omega))
  have HPB := Lib.hid (fun v0 v1 v2 W hS hE => kParse_own (some ⟨v0, 0, none⟩) 2 2 (some ⟨v1, 0, none⟩) 3 3 (some ⟨v2, 0, none⟩) 1 1 exA exF exX b W hS hE (by unfold maxLen; omega))
  have HPT := Lib.hid (fun v0 v1 v2 W hS hE => kParse_own (some ⟨v0, 0, none⟩) 2 2 (some ⟨v1, 0, none⟩) 3 3 (some ⟨v2, 0, none⟩) 1 1 exA exF exX (joinT a b ⟨#[60, 45, 62]⟩) W hS hE hTs)
  have hT : (⟨#[40]⟩ ++ a ++ ⟨#[41]⟩ ++ ⟨#[60, 45, 62]⟩ ++ ⟨#[40]⟩ ++ b ++ ⟨#[41]⟩ : ByteArray) = joinT a b ⟨#[60, 45, 62]⟩ := rfl
  generalize hPA : parseV exA exF exX a = PA at *
  generalize hPB : parseV exA exF exX b = PB at *
  generalize hPT : parseV exA exF exX (joinT a b ⟨#[60, 45, 62]⟩) = PT at *
  clear hPA hPB hPT
  obtain ⟨la, pa, ea⟩ := PA
  obtain ⟨lb, pb, eb⟩ := PB
  obtain ⟨lt, pt, et⟩ := PT
  dsimp only at HJ hlA hlB hlT HPA HPB HPT
  generalize joinT a b ⟨#[60, 45, 62]⟩ = T at *
  have HE : Hid (∀ W, Below w.heap.size w W → EnvS W) := Lib.hid (fun W h => hE.below h)
  clear hE
  go_enter Tryd.func6, Tryd.ntmps6
  go_wp2_with fail
  refine (kExample_any w).mono ?_
  rintro e w1 ⟨g0, g1, g2, rfl, hS, hb⟩
  have HX := Lib.hid (@boxed w1 (some ⟨g0, 0, none⟩) (some ⟨g1, 0, none⟩) (some ⟨g2, 0, none⟩) 2 2 3 3 1 1 31)
  have HG : Hid (∀ W, Below (w1.heap.size + 1) (w1.alloc (.cells #[.slice (some ⟨g0, 0, none⟩) 2 2, .slice (some ⟨g1, 0, none⟩) 3 3, .slice (some ⟨g2, 0, none⟩) 1 1] 31)) W → EnvS W ∧ SigR W W.heap.size (.agg #[.slice (some ⟨g0, 0, none⟩) 2 2, .slice (some ⟨g1, 0, none⟩) 3 3, .slice (some ⟨g2, 0, none⟩) 1 1]) exA exF exX ∧ Below w.heap.size w W ∧ w1.heap.size + 1 ≤ W.heap.size) := Lib.hid (fun W hW => by
    have h1 : Below w1.heap.size w1 W := ((Below.refl _ w1).alloc (Nat.le_refl _) _).trans (hW.mono (by omega))
    have h2 : Below w.heap.size w W := hb.trans (h1.mono hb.size)
    exact ⟨HE.out W h2, hS.on h1, h2, by have := hW.size; simpa using this⟩)
  have HB0 := Lib.hid (Below.refl (w1.heap.size + 1) (w1.alloc (.cells #[.slice (some ⟨g0, 0, none⟩) 2 2, .slice (some ⟨g1, 0, none⟩) 3 3, .slice (some ⟨g2, 0, none⟩) 1 1] 31)))
  clear hS hb HE
  obtain ⟨q0, q1, q2⟩ := HX.out _ HB0.out
  go_wp2_with fail
  refine (HPA.out _ _ _ _ (HG.out _ HB0.out).2.1 (HG.out _ HB0.out).1).mono ?_
  rintro e w2 ⟨A1, c1, rfl, hO, hb⟩
  have HR1 := Lib.hid (Reads.of_own hO)
  have HB2 := Lib.hid (HB0.out.trans (hb.mono (HG.out _ HB0.out).2.2.2))
  clear hO hb HPA q0 q1 q2 HB0
  obtain ⟨q0, q1, q2⟩ := HX.out _ HB2.out
  go_wp2_with fail
  refine (HPB.out _ _ _ _ (HG.out _ HB2.out).2.1 (HG.out _ HB2.out).1).mono ?_
  rintro e w3 ⟨A2, c2, rfl, hO, hb⟩
  have HR2 := Lib.hid (Reads.of_own hO)
  have HB3 := Lib.hid (HB2.out.trans (hb.mono (HG.out _ HB2.out).2.2.2))
  have HRa := Lib.hid ((HR1.out.below hb).more hb.size)
  clear hO hb HPB q0 q1 q2 HB2 HR1
  have HB4 : Hid (Below (w1.heap.size + 1) (w1.alloc (.cells #[.slice (some ⟨g0, 0, none⟩) 2 2, .slice (some ⟨g1, 0, none⟩) 3 3, .slice (some ⟨g2, 0, none⟩) 1 1] 31)) (w3.alloc (.cells #[.string ⟨#[38]⟩, .string ⟨#[124]⟩, .string ⟨#[45, 62]⟩, .string ⟨#[60, 45, 62]⟩, .string ⟨#[117, 110, 116, 105, 108]⟩, .string ⟨#[115, 105, 110, 99, 101]⟩] 9))) := Lib.hid (HB3.out.alloc (HG.out _ HB3.out).2.2.2 _)
  have hb4 : Below w3.heap.size w3 (w3.alloc (.cells #[.string ⟨#[38]⟩, .string ⟨#[124]⟩, .string ⟨#[45, 62]⟩, .string ⟨#[60, 45, 62]⟩, .string ⟨#[117, 110, 116, 105, 108]⟩, .string ⟨#[115, 105, 110, 99, 101]⟩] 9)) := (Below.refl _ w3).alloc (Nat.le_refl _) _
  have HRb := Lib.hid ((HRa.out.below hb4).more hb4.size)
  have HRc := Lib.hid ((HR2.out.below hb4).more hb4.size)
  obtain ⟨q0, q1, q2⟩ := HX.out _ HB4.out
  clear hb4 HRa HR2
  go_wp2_with fail
  generalize w3.alloc (.cells #[.string ⟨#[38]⟩, .string ⟨#[124]⟩, .string ⟨#[45, 62]⟩, .string ⟨#[60, 45, 62]⟩, .string ⟨#[117, 110, 116, 105, 108]⟩, .string ⟨#[115, 105, 110, 99, 101]⟩] 9) = w4 at *
  refine (HPT.out _ _ _ w4 (HG.out _ HB4.out).2.1 (HG.out _ HB4.out).1).mono ?_
  rintro e w5 ⟨A3, c3, rfl, hO, hb⟩
  have HR3 := Lib.hid (Reads.of_own hO)
  have HB5 := Lib.hid (HB4.out.trans (hb.mono (HG.out _ HB4.out).2.2.2))
  have HRd := Lib.hid ((HRb.out.below hb).more hb.size)
  have HRe := Lib.hid ((HRc.out.below hb).more hb.size)
  clear hO hb HPT q0 q1 q2 HB4 HRb HRc hT hTs
  by_cases ha0 : ea = 0
  · by_cases hb0 : eb = 0
    · subst ha0
      subst hb0
      rcases HJ.out rfl rfl with ⟨j1, j2⟩ | ⟨j1, j2⟩
      · subst j1
        obtain ⟨hw1, hw2⟩ : wrap64 ((la.length : Int) + (lb.length : Int)) = (la.length : Int) + (lb.length : Int) ∧ IntKind.i64.wrap ((la.length : Int) + (lb.length : Int)) = (la.length : Int) + (lb.length : Int) := ⟨by rw [wrap64_small (by omega) (by omega)], by rw [wrap_small (by omega) (by omega)]⟩
        have d5 : decide ((200 : Int) ≤ (la.length : Int) + (lb.length : Int)) = true := decide_eq_true (by omega)
        have d6 : decide (200 ≤ la.length + lb.length) = true := decide_eq_true j2
        generalize la.length = La at *
        generalize lb.length = Lb at *
        clear j2 HJ hlA hlB hlT HRd HRe HR3
        go_wp2_with fail
        refine (awake_any _ (HG.out _ HB5.out).1).mono ?_
        rintro e v9 ⟨rfl, hb⟩
        have HB9 := Lib.hid (HB5.out.trans (hb.mono (HG.out _ HB5.out).2.2.2))
        clear hb
        go_wp2
        go_ret
        exact ⟨rfl, (HG.out _ HB9.out).2.2.1⟩
      · subst j1
        have HC := Lib.hid (pIff_any la A1 la.length c1 lb A2 lb.length c2 w5 HRd.out (by unfold maxLen; omega) HRe.out (by unfold maxLen; omega))
        have HSM := Lib.hid (fun A4 c4 W (h1 : Reads W W.heap.size 6 A3 lt.length (nds lt)) (h2 : Reads W W.heap.size 6 A4 (buildF ⟨8, 0, 0, 0, 0, 0⟩ [la, lb]).length (nds (buildF ⟨8, 0, 0, 0, 0, 0⟩ [la, lb]))) => pSame_any lt (buildF ⟨8, 0, 0, 0, 0, 0⟩ [la, lb]) A3 A4 lt.length _ c3 c4 W h1 h2 (by unfold maxLen; omega) (by have := buildF_len6 ⟨8, 0, 0, 0, 0, 0⟩ [la, lb]; unfold maxLen; omega))
        rw [show sameF lt (buildF ⟨8, 0, 0, 0, 0, 0⟩ [la, lb]) = true from j2] at HSM
        generalize buildF ⟨8, 0, 0, 0, 0, 0⟩ [la, lb] = q at *
        clear HJ hlA hlB hlT j2 HRd HRe
        go_wp2_with fail
        refine (HC.out).mono ?_
        rintro e w6 ⟨A4, c4, rfl, hR4, hb⟩
        have HB6 := Lib.hid (HB5.out.trans (hb.mono (HG.out _ HB5.out).2.2.2))
        have HS6 := Lib.hid (HSM.out A4 c4 w6 ((HR3.out.below hb).more hb.size) hR4)
        clear hb hR4 HC HSM HR3 HB5
        go_wp2_with fail
        refine (HS6.out).mono ?_
        rintro e w7 ⟨rfl, hb⟩
        have HB7 := Lib.hid (HB6.out.trans (hb.mono (HG.out _ HB6.out).2.2.2))
        clear hb HS6 HB6
        go_wp2_with fail
        refine (awake_any _ (HG.out _ HB7.out).1).mono ?_
        rintro e v9 ⟨rfl, hb⟩
        have HB9 := Lib.hid (HB7.out.trans (hb.mono (HG.out _ HB7.out).2.2.2))
        clear hb
        go_wp2
        go_ret
        exact ⟨rfl, (HG.out _ HB9.out).2.2.1⟩
    · have hne : (eb != 0) = true := by rw [bne_iff_ne]; exact hb0
      subst ha0
      clear HJ hlA hlB hlT HRd HRe HR3 hb0
      go_wp2_with fail
      refine (awake_any _ (HG.out _ HB5.out).1).mono ?_
      rintro e v9 ⟨rfl, hb⟩
      have HB9 := Lib.hid (HB5.out.trans (hb.mono (HG.out _ HB5.out).2.2.2))
      clear hb
      go_wp2
      go_ret
      exact ⟨rfl, (HG.out _ HB9.out).2.2.1⟩
  · have hne : (ea != 0) = true := by rw [bne_iff_ne]; exact ha0
    clear HJ hlA hlB hlT HRd HRe HR3 ha0
    go_wp2_with fail
    refine (awake_any _ (HG.out _ HB5.out).1).mono ?_
    rintro e v9 ⟨rfl, hb⟩
    have HB9 := Lib.hid (HB5.out.trans (hb.mono (HG.out _ HB5.out).2.2.2))
    clear hb
    go_wp2
    go_ret
    exact ⟨rfl, (HG.out _ HB9.out).2.2.1⟩
set_option maxRecDepth 100000 in
set_option maxHeartbeats 8000000 in
theorem walk4 (a b : ByteArray) (g : Nat) (w : World) (ha : a.size ≤ 200) (hb' : b.size ≤ 200) (hg : g % 6 = 4) (hE : EnvS w) :
    Calls Tryd.prog 6 #[.string a, .string b, .int .u8 g] w fun e w' => e = .returned (.bool true) ∧ Below w.heap.size w w' := by
  have d1 : decide ((200 : Int) < (a.size : Int)) = false := decide_eq_false (by omega)
  have d2 : decide (200 < a.size) = false := decide_eq_false (by omega)
  have d3 : decide ((200 : Int) < (b.size : Int)) = false := decide_eq_false (by omega)
  have d4 : decide (200 < b.size) = false := decide_eq_false (by omega)
  have hr : (g : Int) % 6 = 4 := by omega
  have HJ := Lib.hid (fun h1 h2 => join_parse (A := exA) (F := exF) (X := exX) (a := a) (b := b) (sg := ⟨#[117, 110, 116, 105, 108]⟩) (op := 19) (.tail _ (.tail _ (.tail _ (.tail _ (.head _))))) ha hb' h1 h2)
  have hTs : (joinT a b ⟨#[117, 110, 116, 105, 108]⟩).size ≤ maxLen := by
    have e1 : (⟨#[40]⟩ : ByteArray).size = 1 := rfl
    have e2 : (⟨#[41]⟩ : ByteArray).size = 1 := rfl
    have e3 : (⟨#[117, 110, 116, 105, 108]⟩ : ByteArray).size ≤ 5 := by decide
    unfold joinT maxLen
    simp only [ByteArray.size_append]
    omega
  have hlA := parseV_len exA exF exX a
  have hlB := parseV_len exA exF exX b
  have hlT := parseV_len exA exF exX (joinT a b ⟨#[117, 110, 116, 105, 108]⟩)
  have HPA := Lib.hid (fun v0 v1 v2 W hS hE => kParse_own (some ⟨v0, 0, none⟩) 2 2 (some ⟨v1, 0, none⟩) 3 3 (some ⟨v2, 0, none⟩) 1 1 exA exF exX a W hS hE (by unfold maxLen; omega))
  have HPB := Lib.hid (fun v0 v1 v2 W hS hE => kParse_own (some ⟨v0, 0, none⟩) 2 2 (some ⟨v1, 0, none⟩) 3 3 (some ⟨v2, 0, none⟩) 1 1 exA exF exX b W hS hE (by unfold maxLen; omega))
  have HPT := Lib.hid (fun v0 v1 v2 W hS hE => kParse_own (some ⟨v0, 0, none⟩) 2 2 (some ⟨v1, 0, none⟩) 3 3 (some ⟨v2, 0, none⟩) 1 1 exA exF exX (joinT a b ⟨#[117, 110, 116, 105, 108]⟩) W hS hE hTs)
  have hT : (⟨#[40]⟩ ++ a ++ ⟨#[41]⟩ ++ ⟨#[117, 110, 116, 105, 108]⟩ ++ ⟨#[40]⟩ ++ b ++ ⟨#[41]⟩ : ByteArray) = joinT a b ⟨#[117, 110, 116, 105, 108]⟩ := rfl
  generalize hPA : parseV exA exF exX a = PA at *
  generalize hPB : parseV exA exF exX b = PB at *
  generalize hPT : parseV exA exF exX (joinT a b ⟨#[117, 110, 116, 105, 108]⟩) = PT at *
  clear hPA hPB hPT
  obtain ⟨la, pa, ea⟩ := PA
  obtain ⟨lb, pb, eb⟩ := PB
  obtain ⟨lt, pt, et⟩ := PT
  dsimp only at HJ hlA hlB hlT HPA HPB HPT
  generalize joinT a b ⟨#[117, 110, 116, 105, 108]⟩ = T at *
  have HE : Hid (∀ W, Below w.heap.size w W → EnvS W) := Lib.hid (fun W h => hE.below h)
  clear hE
  go_enter Tryd.func6, Tryd.ntmps6
  go_wp2_with fail
  refine (kExample_any w).mono ?_
  rintro e w1 ⟨g0, g1, g2, rfl, hS, hb⟩
  have HX := Lib.hid (@boxed w1 (some ⟨g0, 0, none⟩) (some ⟨g1, 0, none⟩) (some ⟨g2, 0, none⟩) 2 2 3 3 1 1 31)
  have HG : Hid (∀ W, Below (w1.heap.size + 1) (w1.alloc (.cells #[.slice (some ⟨g0, 0, none⟩) 2 2, .slice (some ⟨g1, 0, none⟩) 3 3, .slice (some ⟨g2, 0, none⟩) 1 1] 31)) W → EnvS W ∧ SigR W W.heap.size (.agg #[.slice (some ⟨g0, 0, none⟩) 2 2, .slice (some ⟨g1, 0, none⟩) 3 3, .slice (some ⟨g2, 0, none⟩) 1 1]) exA exF exX ∧ Below w.heap.size w W ∧ w1.heap.size + 1 ≤ W.heap.size) := Lib.hid (fun W hW => by
    have h1 : Below w1.heap.size w1 W := ((Below.refl _ w1).alloc (Nat.le_refl _) _).trans (hW.mono (by omega))
    have h2 : Below w.heap.size w W := hb.trans (h1.mono hb.size)
    exact ⟨HE.out W h2, hS.on h1, h2, by have := hW.size; simpa using this⟩)
  have HB0 := Lib.hid (Below.refl (w1.heap.size + 1) (w1.alloc (.cells #[.slice (some ⟨g0, 0, none⟩) 2 2, .slice (some ⟨g1, 0, none⟩) 3 3, .slice (some ⟨g2, 0, none⟩) 1 1] 31)))
  clear hS hb HE
  obtain ⟨q0, q1, q2⟩ := HX.out _ HB0.out
  go_wp2_with fail
  refine (HPA.out _ _ _ _ (HG.out _ HB0.out).2.1 (HG.out _ HB0.out).1).mono ?_
  rintro e w2 ⟨A1, c1, rfl, hO, hb⟩
  have HR1 := Lib.hid (Reads.of_own hO)
  have HB2 := Lib.hid (HB0.out.trans (hb.mono (HG.out _ HB0.out).2.2.2))
  clear hO hb HPA q0 q1 q2 HB0
  obtain ⟨q0, q1, q2⟩ := HX.out _ HB2.out
  go_wp2_with fail
  refine (HPB.out _ _ _ _ (HG.out _ HB2.out).2.1 (HG.out _ HB2.out).1).mono ?_
  rintro e w3 ⟨A2, c2, rfl, hO, hb⟩
  have HR2 := Lib.hid (Reads.of_own hO)
  have HB3 := Lib.hid (HB2.out.trans (hb.mono (HG.out _ HB2.out).2.2.2))
  have HRa := Lib.hid ((HR1.out.below hb).more hb.size)
  clear hO hb HPB q0 q1 q2 HB2 HR1
  have HB4 : Hid (Below (w1.heap.size + 1) (w1.alloc (.cells #[.slice (some ⟨g0, 0, none⟩) 2 2, .slice (some ⟨g1, 0, none⟩) 3 3, .slice (some ⟨g2, 0, none⟩) 1 1] 31)) (w3.alloc (.cells #[.string ⟨#[38]⟩, .string ⟨#[124]⟩, .string ⟨#[45, 62]⟩, .string ⟨#[60, 45, 62]⟩, .string ⟨#[117, 110, 116, 105, 108]⟩, .string ⟨#[115, 105, 110, 99, 101]⟩] 9))) := Lib.hid (HB3.out.alloc (HG.out _ HB3.out).2.2.2 _)
  have hb4 : Below w3.heap.size w3 (w3.alloc (.cells #[.string ⟨#[38]⟩, .string ⟨#[124]⟩, .string ⟨#[45, 62]⟩, .string ⟨#[60, 45, 62]⟩, .string ⟨#[117, 110, 116, 105, 108]⟩, .string ⟨#[115, 105, 110, 99, 101]⟩] 9)) := (Below.refl _ w3).alloc (Nat.le_refl _) _
  have HRb := Lib.hid ((HRa.out.below hb4).more hb4.size)
  have HRc := Lib.hid ((HR2.out.below hb4).more hb4.size)
  obtain ⟨q0, q1, q2⟩ := HX.out _ HB4.out
  clear hb4 HRa HR2
  go_wp2_with fail
  generalize w3.alloc (.cells #[.string ⟨#[38]⟩, .string ⟨#[124]⟩, .string ⟨#[45, 62]⟩, .string ⟨#[60, 45, 62]⟩, .string ⟨#[117, 110, 116, 105, 108]⟩, .string ⟨#[115, 105, 110, 99, 101]⟩] 9) = w4 at *
  refine (HPT.out _ _ _ w4 (HG.out _ HB4.out).2.1 (HG.out _ HB4.out).1).mono ?_
  rintro e w5 ⟨A3, c3, rfl, hO, hb⟩
  have HR3 := Lib.hid (Reads.of_own hO)
  have HB5 := Lib.hid (HB4.out.trans (hb.mono (HG.out _ HB4.out).2.2.2))
  have HRd := Lib.hid ((HRb.out.below hb).more hb.size)
  have HRe := Lib.hid ((HRc.out.below hb).more hb.size)
  clear hO hb HPT q0 q1 q2 HB4 HRb HRc hT hTs
  by_cases ha0 : ea = 0
  · by_cases hb0 : eb = 0
    · subst ha0
      subst hb0
      rcases HJ.out rfl rfl with ⟨j1, j2⟩ | ⟨j1, j2⟩
      · subst j1
        obtain ⟨hw1, hw2⟩ : wrap64 ((la.length : Int) + (lb.length : Int)) = (la.length : Int) + (lb.length : Int) ∧ IntKind.i64.wrap ((la.length : Int) + (lb.length : Int)) = (la.length : Int) + (lb.length : Int) := ⟨by rw [wrap64_small (by omega) (by omega)], by rw [wrap_small (by omega) (by omega)]⟩
        have d5 : decide ((200 : Int) ≤ (la.length : Int) + (lb.length : Int)) = true := decide_eq_true (by omega)
        have d6 : decide (200 ≤ la.length + lb.length) = true := decide_eq_true j2
        generalize la.length = La at *
        generalize lb.length = Lb at *
        clear j2 HJ hlA hlB hlT HRd HRe HR3
        go_wp2_with fail
        refine (awake_any _ (HG.out _ HB5.out).1).mono ?_
        rintro e v9 ⟨rfl, hb⟩
        have HB9 := Lib.hid (HB5.out.trans (hb.mono (HG.out _ HB5.out).2.2.2))
        clear hb
        go_wp2
        go_ret
        exact ⟨rfl, (HG.out _ HB9.out).2.2.1⟩
      · subst j1
        have HC := Lib.hid (pUntil_any la A1 la.length c1 lb A2 lb.length c2 w5 HRd.out (by unfold maxLen; omega) HRe.out (by unfold maxLen; omega))
        have HSM := Lib.hid (fun A4 c4 W (h1 : Reads W W.heap.size 6 A3 lt.length (nds lt)) (h2 : Reads W W.heap.size 6 A4 (buildF ⟨19, 0, 0, 0, 0, 0⟩ [la, lb]).length (nds (buildF ⟨19, 0, 0, 0, 0, 0⟩ [la, lb]))) => pSame_any lt (buildF ⟨19, 0, 0, 0, 0, 0⟩ [la, lb]) A3 A4 lt.length _ c3 c4 W h1 h2 (by unfold maxLen; omega) (by have := buildF_len6 ⟨19, 0, 0, 0, 0, 0⟩ [la, lb]; unfold maxLen; omega))
        rw [show sameF lt (buildF ⟨19, 0, 0, 0, 0, 0⟩ [la, lb]) = true from j2] at HSM
        generalize buildF ⟨19, 0, 0, 0, 0, 0⟩ [la, lb] = q at *
        clear HJ hlA hlB hlT j2 HRd HRe
        go_wp2_with fail
        refine (HC.out).mono ?_
        rintro e w6 ⟨A4, c4, rfl, hR4, hb⟩
        have HB6 := Lib.hid (HB5.out.trans (hb.mono (HG.out _ HB5.out).2.2.2))
        have HS6 := Lib.hid (HSM.out A4 c4 w6 ((HR3.out.below hb).more hb.size) hR4)
        clear hb hR4 HC HSM HR3 HB5
        go_wp2_with fail
        refine (HS6.out).mono ?_
        rintro e w7 ⟨rfl, hb⟩
        have HB7 := Lib.hid (HB6.out.trans (hb.mono (HG.out _ HB6.out).2.2.2))
        clear hb HS6 HB6
        go_wp2_with fail
        refine (awake_any _ (HG.out _ HB7.out).1).mono ?_
        rintro e v9 ⟨rfl, hb⟩
        have HB9 := Lib.hid (HB7.out.trans (hb.mono (HG.out _ HB7.out).2.2.2))
        clear hb
        go_wp2
        go_ret
        exact ⟨rfl, (HG.out _ HB9.out).2.2.1⟩
    · have hne : (eb != 0) = true := by rw [bne_iff_ne]; exact hb0
      subst ha0
      clear HJ hlA hlB hlT HRd HRe HR3 hb0
      go_wp2_with fail
      refine (awake_any _ (HG.out _ HB5.out).1).mono ?_
      rintro e v9 ⟨rfl, hb⟩
      have HB9 := Lib.hid (HB5.out.trans (hb.mono (HG.out _ HB5.out).2.2.2))
      clear hb
      go_wp2
      go_ret
      exact ⟨rfl, (HG.out _ HB9.out).2.2.1⟩
  · have hne : (ea != 0) = true := by rw [bne_iff_ne]; exact ha0
    clear HJ hlA hlB hlT HRd HRe HR3 ha0
    go_wp2_with fail
    refine (awake_any _ (HG.out _ HB5.out).1).mono ?_
    rintro e v9 ⟨rfl, hb⟩
    have HB9 := Lib.hid (HB5.out.trans (hb.mono (HG.out _ HB5.out).2.2.2))
    clear hb
    go_wp2
    go_ret
    exact ⟨rfl, (HG.out _ HB9.out).2.2.1⟩
set_option maxRecDepth 100000 in
set_option maxHeartbeats 8000000 in
theorem walk5 (a b : ByteArray) (g : Nat) (w : World) (ha : a.size ≤ 200) (hb' : b.size ≤ 200) (hg : g % 6 = 5) (hE : EnvS w) :
    Calls Tryd.prog 6 #[.string a, .string b, .int .u8 g] w fun e w' => e = .returned (.bool true) ∧ Below w.heap.size w w' := by
  have d1 : decide ((200 : Int) < (a.size : Int)) = false := decide_eq_false (by omega)
  have d2 : decide (200 < a.size) = false := decide_eq_false (by omega)
  have d3 : decide ((200 : Int) < (b.size : Int)) = false := decide_eq_false (by omega)
  have d4 : decide (200 < b.size) = false := decide_eq_false (by omega)
  have hr : (g : Int) % 6 = 5 := by omega
  have HJ := Lib.hid (fun h1 h2 => join_parse (A := exA) (F := exF) (X := exX) (a := a) (b := b) (sg := ⟨#[115, 105, 110, 99, 101]⟩) (op := 21) (.tail _ (.tail _ (.tail _ (.tail _ (.tail _ (.head _)))))) ha hb' h1 h2)
  have hTs : (joinT a b ⟨#[115, 105, 110, 99, 101]⟩).size ≤ maxLen := by
    have e1 : (⟨#[40]⟩ : ByteArray).size = 1 := rfl
    have e2 : (⟨#[41]⟩ : ByteArray).size = 1 := rfl
    have e3 : (⟨#[115, 105, 110, 99, 101]⟩ : ByteArray).size ≤ 5 := by decide
    unfold joinT maxLen
    simp only [ByteArray.size_append]
    omega
  have hlA := parseV_len exA exF exX a
  have hlB := parseV_len exA exF exX b
  have hlT := parseV_len exA exF exX (joinT a b ⟨#[115, 105, 110, 99, 101]⟩)
  have HPA := Lib.hid (fun v0 v1 v2 W hS hE => kParse_own (some ⟨v0, 0, none⟩) 2 2 (some ⟨v1, 0, none⟩) 3 3 (some ⟨v2, 0, none⟩) 1 1 exA exF exX a W hS hE (by unfold maxLen; omega))
  have HPB := Lib.hid (fun v0 v1 v2 W hS hE => kParse_own (some ⟨v0, 0, none⟩) 2 2 (some ⟨v1, 0, none⟩) 3 3 (some ⟨v2, 0, none⟩) 1 1 exA exF exX b W hS hE (by unfold maxLen; omega))
  have HPT := Lib.hid (fun v0 v1 v2 W hS hE => kParse_own (some ⟨v0, 0, none⟩) 2 2 (some ⟨v1, 0, none⟩) 3 3 (some ⟨v2, 0, none⟩) 1 1 exA exF exX (joinT a b ⟨#[115, 105, 110, 99, 101]⟩) W hS hE hTs)
  have hT : (⟨#[40]⟩ ++ a ++ ⟨#[41]⟩ ++ ⟨#[115, 105, 110, 99, 101]⟩ ++ ⟨#[40]⟩ ++ b ++ ⟨#[41]⟩ : ByteArray) = joinT a b ⟨#[115, 105, 110, 99, 101]⟩ := rfl
  generalize hPA : parseV exA exF exX a = PA at *
  generalize hPB : parseV exA exF exX b = PB at *
  generalize hPT : parseV exA exF exX (joinT a b ⟨#[115, 105, 110, 99, 101]⟩) = PT at *
  clear hPA hPB hPT
  obtain ⟨la, pa, ea⟩ := PA
  obtain ⟨lb, pb, eb⟩ := PB
  obtain ⟨lt, pt, et⟩ := PT
  dsimp only at HJ hlA hlB hlT HPA HPB HPT
  generalize joinT a b ⟨#[115, 105, 110, 99, 101]⟩ = T at *
  have HE : Hid (∀ W, Below w.heap.size w W → EnvS W) := Lib.hid (fun W h => hE.below h)
  clear hE
  go_enter Tryd.func6, Tryd.ntmps6
  go_wp2_with fail
  refine (kExample_any w).mono ?_
  rintro e w1 ⟨g0, g1, g2, rfl, hS, hb⟩
  have HX := Lib.hid (@boxed w1 (some ⟨g0, 0, none⟩) (some ⟨g1, 0, none⟩) (some ⟨g2, 0, none⟩) 2 2 3 3 1 1 31)
  have HG : Hid (∀ W, Below (w1.heap.size + 1) (w1.alloc (.cells #[.slice (some ⟨g0, 0, none⟩) 2 2, .slice (some ⟨g1, 0, none⟩) 3 3, .slice (some ⟨g2, 0, none⟩) 1 1] 31)) W → EnvS W ∧ SigR W W.heap.size (.agg #[.slice (some ⟨g0, 0, none⟩) 2 2, .slice (some ⟨g1, 0, none⟩) 3 3, .slice (some ⟨g2, 0, none⟩) 1 1]) exA exF exX ∧ Below w.heap.size w W ∧ w1.heap.size + 1 ≤ W.heap.size) := Lib.hid (fun W hW => by
    have h1 : Below w1.heap.size w1 W := ((Below.refl _ w1).alloc (Nat.le_refl _) _).trans (hW.mono (by omega))
    have h2 : Below w.heap.size w W := hb.trans (h1.mono hb.size)
    exact ⟨HE.out W h2, hS.on h1, h2, by have := hW.size; simpa using this⟩)
  have HB0 := Lib.hid (Below.refl (w1.heap.size + 1) (w1.alloc (.cells #[.slice (some ⟨g0, 0, none⟩) 2 2, .slice (some ⟨g1, 0, none⟩) 3 3, .slice (some ⟨g2, 0, none⟩) 1 1] 31)))
  clear hS hb HE
  obtain ⟨q0, q1, q2⟩ := HX.out _ HB0.out
  go_wp2_with fail
  refine (HPA.out _ _ _ _ (HG.out _ HB0.out).2.1 (HG.out _ HB0.out).1).mono ?_
  rintro e w2 ⟨A1, c1, rfl, hO, hb⟩
  have HR1 := Lib.hid (Reads.of_own hO)
  have HB2 := Lib.hid (HB0.out.trans (hb.mono (HG.out _ HB0.out).2.2.2))
  clear hO hb HPA q0 q1 q2 HB0
  obtain ⟨q0, q1, q2⟩ := HX.out _ HB2.out
  go_wp2_with fail
  refine (HPB.out _ _ _ _ (HG.out _ HB2.out).2.1 (HG.out _ HB2.out).1).mono ?_
  rintro e w3 ⟨A2, c2, rfl, hO, hb⟩
  have HR2 := Lib.hid (Reads.of_own hO)
  have HB3 := Lib.hid (HB2.out.trans (hb.mono (HG.out _ HB2.out).2.2.2))
  have HRa := Lib.hid ((HR1.out.below hb).more hb.size)
  clear hO hb HPB q0 q1 q2 HB2 HR1
  have HB4 : Hid (Below (w1.heap.size + 1) (w1.alloc (.cells #[.slice (some ⟨g0, 0, none⟩) 2 2, .slice (some ⟨g1, 0, none⟩) 3 3, .slice (some ⟨g2, 0, none⟩) 1 1] 31)) (w3.alloc (.cells #[.string ⟨#[38]⟩, .string ⟨#[124]⟩, .string ⟨#[45, 62]⟩, .string ⟨#[60, 45, 62]⟩, .string ⟨#[117, 110, 116, 105, 108]⟩, .string ⟨#[115, 105, 110, 99, 101]⟩] 9))) := Lib.hid (HB3.out.alloc (HG.out _ HB3.out).2.2.2 _)
  have hb4 : Below w3.heap.size w3 (w3.alloc (.cells #[.string ⟨#[38]⟩, .string ⟨#[124]⟩, .string ⟨#[45, 62]⟩, .string ⟨#[60, 45, 62]⟩, .string ⟨#[117, 110, 116, 105, 108]⟩, .string ⟨#[115, 105, 110, 99, 101]⟩] 9)) := (Below.refl _ w3).alloc (Nat.le_refl _) _
  have HRb := Lib.hid ((HRa.out.below hb4).more hb4.size)
  have HRc := Lib.hid ((HR2.out.below hb4).more hb4.size)
  obtain ⟨q0, q1, q2⟩ := HX.out _ HB4.out
  clear hb4 HRa HR2
  go_wp2_with fail
  generalize w3.alloc (.cells #[.string ⟨#[38]⟩, .string ⟨#[124]⟩, .string ⟨#[45, 62]⟩, .string ⟨#[60, 45, 62]⟩, .string ⟨#[117, 110, 116, 105, 108]⟩, .string ⟨#[115, 105, 110, 99, 101]⟩] 9) = w4 at *
  refine (HPT.out _ _ _ w4 (HG.out _ HB4.out).2.1 (HG.out _ HB4.out).1).mono ?_
  rintro e w5 ⟨A3, c3, rfl, hO, hb⟩
  have HR3 := Lib.hid (Reads.of_own hO)
  have HB5 := Lib.hid (HB4.out.trans (hb.mono (HG.out _ HB4.out).2.2.2))
  have HRd := Lib.hid ((HRb.out.below hb).more hb.size)
  have HRe := Lib.hid ((HRc.out.below hb).more hb.size)
  clear hO hb HPT q0 q1 q2 HB4 HRb HRc hT hTs
  by_cases ha0 : ea = 0
  · by_cases hb0 : eb = 0
    · subst ha0
      subst hb0
      rcases HJ.out rfl rfl with ⟨j1, j2⟩ | ⟨j1, j2⟩
      · subst j1
        obtain ⟨hw1, hw2⟩ : wrap64 ((la.length : Int) + (lb.length : Int)) = (la.length : Int) + (lb.length : Int) ∧ IntKind.i64.wrap ((la.length : Int) + (lb.length : Int)) = (la.length : Int) + (lb.length : Int) := ⟨by rw [wrap64_small (by omega) (by omega)], by rw [wrap_small (by omega) (by omega)]⟩
        have d5 : decide ((200 : Int) ≤ (la.length : Int) + (lb.length : Int)) = true := decide_eq_true (by omega)
        have d6 : decide (200 ≤ la.length + lb.length) = true := decide_eq_true j2
        generalize la.length = La at *
        generalize lb.length = Lb at *
        clear j2 HJ hlA hlB hlT HRd HRe HR3
        go_wp2_with fail
        refine (awake_any _ (HG.out _ HB5.out).1).mono ?_
        rintro e v9 ⟨rfl, hb⟩
        have HB9 := Lib.hid (HB5.out.trans (hb.mono (HG.out _ HB5.out).2.2.2))
        clear hb
        go_wp2
        go_ret
        exact ⟨rfl, (HG.out _ HB9.out).2.2.1⟩
      · subst j1
        have HC := Lib.hid (pSince_any la A1 la.length c1 lb A2 lb.length c2 w5 HRd.out (by unfold maxLen; omega) HRe.out (by unfold maxLen; omega))
        have HSM := Lib.hid (fun A4 c4 W (h1 : Reads W W.heap.size 6 A3 lt.length (nds lt)) (h2 : Reads W W.heap.size 6 A4 (buildF ⟨21, 0, 0, 0, 0, 0⟩ [la, lb]).length (nds (buildF ⟨21, 0, 0, 0, 0, 0⟩ [la, lb]))) => pSame_any lt (buildF ⟨21, 0, 0, 0, 0, 0⟩ [la, lb]) A3 A4 lt.length _ c3 c4 W h1 h2 (by unfold maxLen; omega) (by have := buildF_len6 ⟨21, 0, 0, 0, 0, 0⟩ [la, lb]; unfold maxLen; omega))
        rw [show sameF lt (buildF ⟨21, 0, 0, 0, 0, 0⟩ [la, lb]) = true from j2] at HSM
        generalize buildF ⟨21, 0, 0, 0, 0, 0⟩ [la, lb] = q at *
        clear HJ hlA hlB hlT j2 HRd HRe
        go_wp2_with fail
        refine (HC.out).mono ?_
        rintro e w6 ⟨A4, c4, rfl, hR4, hb⟩
        have HB6 := Lib.hid (HB5.out.trans (hb.mono (HG.out _ HB5.out).2.2.2))
        have HS6 := Lib.hid (HSM.out A4 c4 w6 ((HR3.out.below hb).more hb.size) hR4)
        clear hb hR4 HC HSM HR3 HB5
        go_wp2_with fail
        refine (HS6.out).mono ?_
        rintro e w7 ⟨rfl, hb⟩
        have HB7 := Lib.hid (HB6.out.trans (hb.mono (HG.out _ HB6.out).2.2.2))
        clear hb HS6 HB6
        go_wp2_with fail
        refine (awake_any _ (HG.out _ HB7.out).1).mono ?_
        rintro e v9 ⟨rfl, hb⟩
        have HB9 := Lib.hid (HB7.out.trans (hb.mono (HG.out _ HB7.out).2.2.2))
        clear hb
        go_wp2
        go_ret
        exact ⟨rfl, (HG.out _ HB9.out).2.2.1⟩
    · have hne : (eb != 0) = true := by rw [bne_iff_ne]; exact hb0
      subst ha0
      clear HJ hlA hlB hlT HRd HRe HR3 hb0
      go_wp2_with fail
      refine (awake_any _ (HG.out _ HB5.out).1).mono ?_
      rintro e v9 ⟨rfl, hb⟩
      have HB9 := Lib.hid (HB5.out.trans (hb.mono (HG.out _ HB5.out).2.2.2))
      clear hb
      go_wp2
      go_ret
      exact ⟨rfl, (HG.out _ HB9.out).2.2.1⟩
  · have hne : (ea != 0) = true := by rw [bne_iff_ne]; exact ha0
    clear HJ hlA hlB hlT HRd HRe HR3 ha0
    go_wp2_with fail
    refine (awake_any _ (HG.out _ HB5.out).1).mono ?_
    rintro e v9 ⟨rfl, hb⟩
    have HB9 := Lib.hid (HB5.out.trans (hb.mono (HG.out _ HB5.out).2.2.2))
    clear hb
    go_wp2
    go_ret
    exact ⟨rfl, (HG.out _ HB9.out).2.2.1⟩
theorem walk (a b : ByteArray) (g : Nat) (w : World) (ha : a.size ≤ maxLen) (hb : b.size ≤ maxLen) (hE : EnvS w) :
    Calls Tryd.prog 6 #[.string a, .string b, .int .u8 g] w fun e w' => e = .returned (.bool true) ∧ Below w.heap.size w w' := by
  by_cases h : 200 < a.size ∨ 200 < b.size
  · exact walk_long a b g w h ha hb hE
  · have h1 : a.size ≤ 200 := by omega
    have h2 : b.size ≤ 200 := by omega
    have h6 : g % 6 < 6 := Nat.mod_lt _ (by decide)
    match hk : g % 6, h6 with
    | 0, _ => exact walk0 a b g w h1 h2 hk hE
    | 1, _ => exact walk1 a b g w h1 h2 hk hE
    | 2, _ => exact walk2 a b g w h1 h2 hk hE
    | 3, _ => exact walk3 a b g w h1 h2 hk hE
    | 4, _ => exact walk4 a b g w h1 h2 hk hE
    | 5, _ => exact walk5 a b g w h1 h2 hk hE
    | n + 6, h => omega
set_option maxRecDepth 100000 in
theorem contract (H : Type) (enc : TypeId × Value → H) (W : World) (base : Nat) (args : Array Value) (ds gs : List (DataW H)) (before : List MemPlace)
    (hval : ∀ (j : Nat) t v, Tryd.f6.params[j]? = some t → args[j]? = some v → Value.okWide Tryd.prog W .any base t v)
    (hW : DataW.Whole enc Tryd.prog Tryd.f6.params.toList Rows.parserJoinsSpec.vars false W args.toList ds gs before) (hE : EnvS W) :
    Calls Tryd.prog 6 args W fun e W' => ∃ v, e = .returned v ∧ Rows.parserJoinsSpec.post enc Tryd.prog Tryd.f6 false true false false W args v W' := by
  have hW' := hW
  obtain ⟨p, q, hA0, hV, rfl, hfz, hnd⟩ := hW
  have hA : DataW.TrodAll enc Tryd.prog W 0 (fun _ => true) true Tryd.f6.params.toList args.toList ds p := hA0
  rw [Tryd.params6] at hA hval
  obtain ⟨v0, vs0, d0, ds0, p0, q0, hargs, rfl, rfl, h0, r0⟩ := trodAll_cons hA
  obtain ⟨v1, vs1, d1, ds1, p1, q1, rfl, rfl, rfl, h1, r1⟩ := trodAll_cons r0
  obtain ⟨v2, vs2, d2, ds2, p2, q2, rfl, rfl, rfl, h2, r2⟩ := trodAll_cons r1
  obtain ⟨rfl, rfl, rfl⟩ := trodAll_nil r2
  obtain rfl : args = #[v0, v1, v2] := by cases args; simp_all
  obtain ⟨rfl, rfl⟩ := trodVars_none hV
  obtain ⟨t0, rfl, rfl, rfl, w0⟩ := open_string Tryd.underlying9 (hval 0 9 v0 rfl rfl) h0
  obtain ⟨t1, rfl, rfl, rfl, w1⟩ := open_string Tryd.underlying9 (hval 1 9 v1 rfl rfl) h1
  obtain ⟨g2, rfl, rfl, rfl, w2⟩ := open_int Tryd.underlying5 (hval 2 5 v2 rfl rfl) h2
  obtain ⟨g2, rfl, hu2⟩ : ∃ n : Nat, g2 = (n : Int) ∧ n < 256 := by have hz := w2; have q1 : IntKind.u8.min = 0 := rfl; have q2 : IntKind.u8.max = 255 := rfl; simp [Lit.wf] at hz; exact ⟨g2.toNat, by omega, by omega⟩
  clear hA0
  simp only [List.append_nil] at hW'
  have hwalk := walk t0 t1 g2 W w0 w1 hE
  refine hwalk.mono fun e W' ⟨he, hg⟩ => ?_
  subst he
  exact ⟨_, rfl, _, _, _, [], _, [], hW', trodAll_mk1 (shut_bool Tryd.underlying4 _), (trodAll_cons_mk (shut_string Tryd.underlying9 w0) (trodAll_cons_mk (shut_string Tryd.underlying9 w1) (trodAll_cons_mk (shut_int Tryd.underlying5 w2) trodAll_mk0))), rfl, hg.frame _, fun h => by cases h⟩
theorem reads (os : Os) {H : Type} (enc : TypeId × Value → H) : ∃ places, DataW.whole enc Tryd.prog ((laidW os).forCall (fun _ _ => 0) ⟨#[], #[.string ⟨#[]⟩, .string ⟨#[]⟩, .int .u8 0], []⟩).memory Tryd.f6.params.toList Rows.parserJoinsSpec.vars false #[(.string ⟨#[]⟩ : Value), (.string ⟨#[]⟩ : Value), (.int .u8 0 : Value)].toList 8 = some ([.lit (.string []), .lit (.string []), .lit (.int .u8 0)], [], places) :=
  ⟨[], by kernel_rfl⟩
set_option maxRecDepth 100000 in
theorem lifted (os : Os) (started : os.Started) (H : Type) (enc : TypeId × Value → H) (F : Stop.Interp) :
    ReturnsInHanded {} Tryd.checked os 6 .any ((OpenSpec.ofChange Rows.parserJoinsSpec).preRow enc Tryd.prog Tryd.f6 Rows.parserJoinsRow.domain false Rows.parserJoinsRow.laid) (((OpenSpec.ofChange Rows.parserJoinsSpec).at F).post enc Tryd.prog Tryd.f6 false true false false) := by
  obtain ⟨places, hx⟩ := reads os enc
  refine returnsInHanded_of_row (C := Tryd.checked) (s := OpenSpec.ofChange Rows.parserJoinsSpec) own started (by kernel_rfl) Tryd.func6
    (witness_row_atRef (enc := enc) (C := Tryd.checked) false (laidW os) #[.string ⟨#[]⟩, .string ⟨#[]⟩, .int .u8 0] (laidW_os os) (vars_ok os _) (heap_ok os _) (by kernel_rfl)
      (OpenSpec.preRow_of_cond 8 hx (by kernel_rfl) (fun k hk => by cases hk) (by kernel_rfl) (laid_met os _))) ?_
  intro W base args ds gs before hval hW _ _ _ hL hsh _
  exact contract H enc W base args ds gs before hval hW (env_of hL hsh)
theorem said : Rows.ParserJoinsSaid :=
  OpenClaim.holds_of_cond 6 Tryd.f6 rfl rfl rfl rfl rfl rfl rfl ⟨rfl, rfl, rfl, rfl, rfl⟩ rfl rfl rfl rfl rfl (by kernel_rfl) Tryd.func6 (by kernel_rfl)
    (of_decide_eq_true (by kernel_rfl)) (by unfold Func.isWrapper; first | (rw [if_pos (by decide +kernel)]; kernel_rfl) | (rw [if_neg (by decide +kernel)]; exact ⟨rfl, rfl⟩))
    (fun os started H enc _ F => by rw [OpenClaim.pre_eq_preRow]; exact lifted os started H enc F)
theorem plain (f : FuncId) (fn : Func) (hf : Tryd.pinned.checked.prog.funcNamed "witting/wittinglaw06.ParserJoins" = some f) (hfn : Tryd.pinned.checked.prog.funcs[f]? = some fn) :
    false = Tryd.pinned.checked.prog.looks [] ∧ ∀ (j : Nat) t, fn.params[j]? = some t → Tryd.pinned.checked.prog.wantsStandIn t = false := by
  obtain rfl : f = 6 := Option.some.inj ((show Tryd.prog.funcNamed "witting/wittinglaw06.ParserJoins" = some 6 by kernel_rfl).symm.trans hf) |>.symm
  obtain rfl : fn = Tryd.f6 := (Option.some.inj (Tryd.func6.symm.trans hfn)).symm
  refine ⟨no_looks, fun j t ht => ?_⟩
  rw [Tryd.params6] at ht
  have hm : t ∈ [9, 9, 5] := by simpa using Array.mem_of_getElem? ht
  have hall : ([9, 9, 5].all fun u => !Tryd.prog.wantsStandIn u) = true := by kernel_rfl
  exact (show Tryd.prog.wantsStandIn t = false by simpa using List.all_eq_true.1 hall t hm)
theorem card : Rows.ParserJoinsCardSaid :=
  Claim7.holds_tied_plain_at .later [] _ _ _ _ said (fun _ h => by cases h) (by kernel_rfl) (fun _ h => by cases h) parserJoins_row_tie rfl ⟨rfl, rfl⟩ (by kernel_rfl) rfl plain (by kernel_rfl)
#print axioms card
end Go.Proofs.YthhkeobjjeldhaaDoor.parserJoins
