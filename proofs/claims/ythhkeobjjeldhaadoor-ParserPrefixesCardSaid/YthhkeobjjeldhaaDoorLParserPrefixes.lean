/- ParserPrefixes (P6.2): operators with one operand bind more closely than all others: what stands behind a connective is not in their scope. Conditions: the package variables that the row lists hold what the program's text lays in them. -/
import Derived.Test.YthhkeobjjeldhaaDoorJl
import Derived.Test.YthhkeobjjeldhaaDoorJp
namespace Go.Proofs.YthhkeobjjeldhaaDoor.parserPrefixes
open Go.ChangeShapes Go.WideShapes Go.ChangeAt Go.RowKit Go.Proofs.YthhkeobjjeldhaaDoor Go.Proofs.YthhkeobjjeldhaaDoor.par Go.Proofs.Ws Go.Maps
open Go.ChangeMaps (open_string shut_string)
set_option maxRecDepth 100000 in
set_option maxHeartbeats 4000000 in
theorem walk_long (a : ByteArray) (g : Nat) (w : World) (hl : 200 < a.size) (ha : a.size ≤ maxLen) (hE : EnvS w) :
    Calls Tryd.prog 8 #[.string a, .int .u8 g] w fun e w' => e = .returned (.bool true) ∧ Below w.heap.size w w' := by
  unfold maxLen at ha
  have d1 : decide ((200 : Int) < (a.size : Int)) = true := decide_eq_true (by omega)
  have d2 : decide (200 < a.size) = true := decide_eq_true hl
  clear hl
  have HE : Hid (∀ W, Below w.heap.size w W → EnvS W) := Lib.hid (fun W h => hE.below h)
  clear hE
  go_enter Tryd.func8, Tryd.ntmps8
  go_wp2_with fail
  refine (kExample_any w).mono ?_
  rintro e w1 ⟨g0, g1, g2, rfl, hS, hb⟩
  have HX := Lib.hid (@boxed w1 (some ⟨g0, 0, none⟩) (some ⟨g1, 0, none⟩) (some ⟨g2, 0, none⟩) 2 2 3 3 1 1 31)
  have HG : Hid (∀ W, Below (w1.heap.size + 1) (w1.alloc (.cells #[.slice (some ⟨g0, 0, none⟩) 2 2, .slice (some ⟨g1, 0, none⟩) 3 3, .slice (some ⟨g2, 0, none⟩) 1 1] 31)) W → EnvS W ∧ SigR W W.heap.size (.agg #[.slice (some ⟨g0, 0, none⟩) 2 2, .slice (some ⟨g1, 0, none⟩) 3 3, .slice (some ⟨g2, 0, none⟩) 1 1]) exA exF exX ∧ Below w.heap.size w W ∧ w1.heap.size + 1 ≤ W.heap.size) := Lib.hid (fun W hW => by
    have h1 : Below w1.heap.size w1 W := ((Below.refl _ w1).alloc (Nat.le_refl _) _).trans (hW.mono (by omega))
    have h2 : Below w.heap.size w W := hb.trans (h1.mono hb.size)
    exact ⟨HE.out W h2, hS.on h1, h2, by have := hW.size; simpa using this⟩)
  have HB0 := Lib.hid (Below.refl (w1.heap.size + 1) (w1.alloc (.cells #[.slice (some ⟨g0, 0, none⟩) 2 2, .slice (some ⟨g1, 0, none⟩) 3 3, .slice (some ⟨g2, 0, none⟩) 1 1] 31)))
  clear hS hb HE
  go_wp2_with fail
  refine (awake_any _ (HG.out _ HB0.out).1).mono ?_
  rintro e v9 ⟨rfl, hb⟩
  have HB9 := Lib.hid (HB0.out.trans (hb.mono (HG.out _ HB0.out).2.2.2))
  clear hb
  go_wp2
  go_ret
  exact ⟨rfl, (HG.out _ HB9.out).2.2.1⟩
set_option maxRecDepth 100000 in
set_option maxHeartbeats 8000000 in
theorem walk0 (a : ByteArray) (g : Nat) (w : World) (ha : a.size ≤ 200) (hg : g % 6 = 0) (hE : EnvS w) :
    Calls Tryd.prog 8 #[.string a, .int .u8 g] w fun e w' => e = .returned (.bool true) ∧ Below w.heap.size w w' := by
  have d1 : decide ((200 : Int) < (a.size : Int)) = false := decide_eq_false (by omega)
  have d2 : decide (200 < a.size) = false := decide_eq_false (by omega)
  have hr : (g : Int) % 6 = 0 := by omega
  have hN : UnN ⟨4, 0, 0, 0, 0, 0⟩ := ⟨by decide, ⟨by decide, by decide, by decide⟩, by decide, by decide, by decide, by decide⟩
  have HJ := Lib.hid (fun h1 h2 => prefix_parse (A := exA) (F := exF) (X := exX) (a := a) (sg := ⟨#[126]⟩) (u := [⟨#[126]⟩]) (n := ⟨4, 0, 0, 0, 0, 0⟩) hN (pre1_plain exA exF exX (.inl ⟨rfl, rfl⟩)) (fun b v h => TokW.mark (by decide) h) ha (by decide) (by decide) h1 h2)
  have hTs : (preT ⟨#[126]⟩ a).size ≤ maxLen := by
    have e1 : (⟨#[40]⟩ : ByteArray).size = 1 := rfl
    have e2 : (⟨#[41, 32, 38, 32, 112]⟩ : ByteArray).size = 5 := rfl
    have e3 : (⟨#[126]⟩ : ByteArray).size ≤ 10 := by decide
    unfold preT maxLen
    simp only [ByteArray.size_append]
    omega
  have hlA := parseV_len exA exF exX a
  have hlT := parseV_len exA exF exX (preT ⟨#[126]⟩ a)
  have HPA := Lib.hid (fun v0 v1 v2 W hS hE => kParse_own (some ⟨v0, 0, none⟩) 2 2 (some ⟨v1, 0, none⟩) 3 3 (some ⟨v2, 0, none⟩) 1 1 exA exF exX a W hS hE (by unfold maxLen; omega))
  have HPT := Lib.hid (fun v0 v1 v2 W hS hE => kParse_own (some ⟨v0, 0, none⟩) 2 2 (some ⟨v1, 0, none⟩) 3 3 (some ⟨v2, 0, none⟩) 1 1 exA exF exX (preT ⟨#[126]⟩ a) W hS hE hTs)
  have hT : (⟨#[126]⟩ ++ ⟨#[40]⟩ ++ a ++ ⟨#[41, 32, 38, 32, 112]⟩ : ByteArray) = preT ⟨#[126]⟩ a := rfl
  generalize hPA : parseV exA exF exX a = PA at *
  generalize hPT : parseV exA exF exX (preT ⟨#[126]⟩ a) = PT at *
  clear hPA hPT
  obtain ⟨la, pa, ea⟩ := PA
  obtain ⟨lt, pt, et⟩ := PT
  dsimp only at HJ hlA hlT HPA HPT
  generalize preT ⟨#[126]⟩ a = T at *
  have HE : Hid (∀ W, Below w.heap.size w W → EnvS W) := Lib.hid (fun W h => hE.below h)
  clear hE
  go_enter Tryd.func8, Tryd.ntmps8
  go_wp2_with fail
  refine (kExample_any w).mono ?_
  rintro e w1 ⟨g0, g1, g2, rfl, hS, hb⟩
  have HX := Lib.hid (@boxed w1 (some ⟨g0, 0, none⟩) (some ⟨g1, 0, none⟩) (some ⟨g2, 0, none⟩) 2 2 3 3 1 1 31)
  have HG : Hid (∀ W, Below (w1.heap.size + 1) (w1.alloc (.cells #[.slice (some ⟨g0, 0, none⟩) 2 2, .slice (some ⟨g1, 0, none⟩) 3 3, .slice (some ⟨g2, 0, none⟩) 1 1] 31)) W → EnvS W ∧ SigR W W.heap.size (.agg #[.slice (some ⟨g0, 0, none⟩) 2 2, .slice (some ⟨g1, 0, none⟩) 3 3, .slice (some ⟨g2, 0, none⟩) 1 1]) exA exF exX ∧ Below w.heap.size w W ∧ w1.heap.size + 1 ≤ W.heap.size) := Lib.hid (fun W hW => by
    have h1 : Below w1.heap.size w1 W := ((Below.refl _ w1).alloc (Nat.le_refl _) _).trans (hW.mono (by omega))
    have h2 : Below w.heap.size w W := hb.trans (h1.mono hb.size)
    exact ⟨HE.out W h2, hS.on h1, h2, by have := hW.size; simpa using this⟩)
  have HB0 := Lib.hid (Below.refl (w1.heap.size + 1) (w1.alloc (.cells #[.slice (some ⟨g0, 0, none⟩) 2 2, .slice (some ⟨g1, 0, none⟩) 3 3, .slice (some ⟨g2, 0, none⟩) 1 1] 31)))
  clear hS hb HE
  obtain ⟨q0, q1, q2⟩ := HX.out _ HB0.out
  go_wp2_with fail
  refine (HPA.out _ _ _ _ (HG.out _ HB0.out).2.1 (HG.out _ HB0.out).1).mono ?_
  rintro e w2 ⟨A1, c1, rfl, hO, hb⟩
  have HR1 := Lib.hid (Reads.of_own hO)
  have HB2 := Lib.hid (HB0.out.trans (hb.mono (HG.out _ HB0.out).2.2.2))
  clear hO hb HPA q0 q1 q2 HB0
  by_cases ha0 : ea = 0
  · subst ha0
    by_cases h100 : 100 < la.length
    · have d5 : decide ((100 : Int) < (la.length : Int)) = true := decide_eq_true (by omega)
      have d6 : decide (100 < la.length) = true := decide_eq_true h100
      generalize la.length = La at *
      clear HJ hlA hlT HR1 h100 hT hTs HPT
      go_wp2_with fail
      refine (awake_any _ (HG.out _ HB2.out).1).mono ?_
      rintro e v9 ⟨rfl, hb⟩
      have HB9 := Lib.hid (HB2.out.trans (hb.mono (HG.out _ HB2.out).2.2.2))
      clear hb
      go_wp2
      go_ret
      exact ⟨rfl, (HG.out _ HB9.out).2.2.1⟩
    · have d5 : decide ((100 : Int) < (la.length : Int)) = false := decide_eq_false (by omega)
      have d6 : decide (100 < la.length) = false := decide_eq_false h100
      obtain ⟨j1, j2⟩ := HJ.out rfl (by show la.length ≤ 100; omega)
      have HJ2 := Lib.hid j2
      subst j1
      have HB3 : Hid (Below (w1.heap.size + 1) (w1.alloc (.cells #[.slice (some ⟨g0, 0, none⟩) 2 2, .slice (some ⟨g1, 0, none⟩) 3 3, .slice (some ⟨g2, 0, none⟩) 1 1] 31)) (w2.alloc (.cells #[.string ⟨#[126]⟩, .string ⟨#[75, 91, 98, 93]⟩, .string ⟨#[77, 91, 97, 93]⟩, .string ⟨#[83, 91, 97, 93]⟩, .string ⟨#[110, 101, 120, 116, 32]⟩, .string ⟨#[112, 114, 101, 118, 32]⟩] 9))) := Lib.hid (HB2.out.alloc (HG.out _ HB2.out).2.2.2 _)
      have HB4 : Hid (Below (w1.heap.size + 1) (w1.alloc (.cells #[.slice (some ⟨g0, 0, none⟩) 2 2, .slice (some ⟨g1, 0, none⟩) 3 3, .slice (some ⟨g2, 0, none⟩) 1 1] 31)) ((w2.alloc (.cells #[.string ⟨#[126]⟩, .string ⟨#[75, 91, 98, 93]⟩, .string ⟨#[77, 91, 97, 93]⟩, .string ⟨#[83, 91, 97, 93]⟩, .string ⟨#[110, 101, 120, 116, 32]⟩, .string ⟨#[112, 114, 101, 118, 32]⟩] 9)).alloc (.cells (nds [⟨3, 0, 0, 0, 0, 0⟩]).toArray 47))) := Lib.hid (HB3.out.alloc (HG.out _ HB3.out).2.2.2 _)
      have hb4 : Below w2.heap.size w2 ((w2.alloc (.cells #[.string ⟨#[126]⟩, .string ⟨#[75, 91, 98, 93]⟩, .string ⟨#[77, 91, 97, 93]⟩, .string ⟨#[83, 91, 97, 93]⟩, .string ⟨#[110, 101, 120, 116, 32]⟩, .string ⟨#[112, 114, 101, 118, 32]⟩] 9)).alloc (.cells (nds [⟨3, 0, 0, 0, 0, 0⟩]).toArray 47)) := ((Below.refl _ w2).alloc (Nat.le_refl _) _).alloc (by simp) _
      have HRp := Lib.hid (reads_nds' (w2.alloc (.cells #[.string ⟨#[126]⟩, .string ⟨#[75, 91, 98, 93]⟩, .string ⟨#[77, 91, 97, 93]⟩, .string ⟨#[83, 91, 97, 93]⟩, .string ⟨#[110, 101, 120, 116, 32]⟩, .string ⟨#[112, 114, 101, 118, 32]⟩] 9)) [⟨3, 0, 0, 0, 0, 0⟩] 47)
      have hsz : (w2.alloc (.cells #[.string ⟨#[126]⟩, .string ⟨#[75, 91, 98, 93]⟩, .string ⟨#[77, 91, 97, 93]⟩, .string ⟨#[83, 91, 97, 93]⟩, .string ⟨#[110, 101, 120, 116, 32]⟩, .string ⟨#[112, 114, 101, 118, 32]⟩] 9)).heap.size = w2.heap.size + 1 := by simp
      rw [hsz] at HRp
      have HRa := Lib.hid ((HR1.out.below hb4).more hb4.size)
      have hnd : (nds [⟨3, 0, 0, 0, 0, 0⟩]).toArray = #[.int .i64 3, .int .i64 0, .int .i64 0, .int .i64 0, .int .i64 0, .int .i64 0] := rfl
      rw [hnd] at HB4 HRp HRa
      clear hb4 hsz HR1 HB3 HB2 hnd j2
      go_wp2_with fail
      generalize (w2.alloc (.cells #[.string ⟨#[126]⟩, .string ⟨#[75, 91, 98, 93]⟩, .string ⟨#[77, 91, 97, 93]⟩, .string ⟨#[83, 91, 97, 93]⟩, .string ⟨#[110, 101, 120, 116, 32]⟩, .string ⟨#[112, 114, 101, 118, 32]⟩] 9)).alloc (.cells #[.int .i64 3, .int .i64 0, .int .i64 0, .int .i64 0, .int .i64 0, .int .i64 0] 47) = w4 at *
      refine (pNot_any la A1 la.length c1 w4 HRa.out (by unfold maxLen; omega)).mono ?_
      rintro e w5 ⟨A2, c2, rfl, hR2, hb⟩
      have HR2 := Lib.hid hR2
      have HRb := Lib.hid ((HRp.out.below hb).more hb.size)
      have HB5 := Lib.hid (HB4.out.trans (hb.mono (HG.out _ HB4.out).2.2.2))
      clear hR2 hb HB4 HRp HRa
      have hqn := buildF_len6 ⟨4, 0, 0, 0, 0, 0⟩ [la]
      have hqm := buildF_len6 ⟨5, 0, 0, 0, 0, 0⟩ [buildF ⟨4, 0, 0, 0, 0, 0⟩ [la], [⟨3, 0, 0, 0, 0, 0⟩]]
      have HJ3 : Hid (sameF lt (buildF ⟨5, 0, 0, 0, 0, 0⟩ [buildF ⟨4, 0, 0, 0, 0, 0⟩ [la], [⟨3, 0, 0, 0, 0, 0⟩]]) = true) := HJ2
      clear HJ2
      generalize buildF ⟨4, 0, 0, 0, 0, 0⟩ [la] = q at *
      obtain ⟨q0, q1, q2⟩ := HX.out _ HB5.out
      go_wp2_with fail
      refine (HPT.out _ _ _ w5 (HG.out _ HB5.out).2.1 (HG.out _ HB5.out).1).mono ?_
      rintro e w6 ⟨A3, c3, rfl, hO, hb⟩
      have HR3 := Lib.hid (Reads.of_own hO)
      have HB6 := Lib.hid (HB5.out.trans (hb.mono (HG.out _ HB5.out).2.2.2))
      have HRc := Lib.hid ((HR2.out.below hb).more hb.size)
      have HRd := Lib.hid ((HRb.out.below hb).more hb.size)
      clear hO hb HPT q0 q1 q2 HB5 HR2 HRb hT hTs
      have HC := Lib.hid (pAnd_any q A2 q.length c2 [⟨3, 0, 0, 0, 0, 0⟩] (some ⟨w2.heap.size + 1, 0, none⟩) 1 1 w6 HRc.out (by unfold maxLen; omega) HRd.out (by unfold maxLen; omega))
      have HSM := Lib.hid (fun A4 c4 W (h1 : Reads W W.heap.size 6 A3 lt.length (nds lt)) (h2 : Reads W W.heap.size 6 A4 (buildF ⟨5, 0, 0, 0, 0, 0⟩ [q, [⟨3, 0, 0, 0, 0, 0⟩]]).length (nds (buildF ⟨5, 0, 0, 0, 0, 0⟩ [q, [⟨3, 0, 0, 0, 0, 0⟩]]))) => pSame_any lt (buildF ⟨5, 0, 0, 0, 0, 0⟩ [q, [⟨3, 0, 0, 0, 0, 0⟩]]) A3 A4 lt.length _ c3 c4 W h1 h2 (by unfold maxLen; omega) (by unfold maxLen; omega))
      rw [HJ3.out] at HSM
      generalize buildF ⟨5, 0, 0, 0, 0, 0⟩ [q, [⟨3, 0, 0, 0, 0, 0⟩]] = qq at *
      clear HJ hlA hlT HRc HRd hqn hqm h100 HJ3
      go_wp2_with fail
      refine (HC.out).mono ?_
      rintro e w7 ⟨A4, c4, rfl, hR4, hb⟩
      have HB7 := Lib.hid (HB6.out.trans (hb.mono (HG.out _ HB6.out).2.2.2))
      have HS7 := Lib.hid (HSM.out A4 c4 w7 ((HR3.out.below hb).more hb.size) hR4)
      clear hb hR4 HC HSM HR3 HB6
      go_wp2_with fail
      refine (HS7.out).mono ?_
      rintro e w8 ⟨rfl, hb⟩
      have HB8 := Lib.hid (HB7.out.trans (hb.mono (HG.out _ HB7.out).2.2.2))
      clear hb HS7 HB7
      go_wp2_with fail
      refine (awake_any _ (HG.out _ HB8.out).1).mono ?_
      rintro e v9 ⟨rfl, hb⟩
      have HB9 := Lib.hid (HB8.out.trans (hb.mono (HG.out _ HB8.out).2.2.2))
      clear hb
      go_wp2
      go_ret
      exact ⟨rfl, (HG.out _ HB9.out).2.2.1⟩
  · have hne : (ea != 0) = true := by rw [bne_iff_ne]; exact ha0
    clear HJ hlA hlT HR1 ha0 hT hTs HPT
    go_wp2_with fail
    refine (awake_any _ (HG.out _ HB2.out).1).mono ?_
    rintro e v9 ⟨rfl, hb⟩
    have HB9 := Lib.hid (HB2.out.trans (hb.mono (HG.out _ HB2.out).2.2.2))
    clear hb
    go_wp2
    go_ret
    exact ⟨rfl, (HG.out _ HB9.out).2.2.1⟩
set_option maxRecDepth 100000 in
set_option maxHeartbeats 8000000 in
theorem walk1 (a : ByteArray) (g : Nat) (w : World) (ha : a.size ≤ 200) (hg : g % 6 = 1) (hE : EnvS w) :
    Calls Tryd.prog 8 #[.string a, .int .u8 g] w fun e w' => e = .returned (.bool true) ∧ Below w.heap.size w w' := by
  have d1 : decide ((200 : Int) < (a.size : Int)) = false := decide_eq_false (by omega)
  have d2 : decide (200 < a.size) = false := decide_eq_false (by omega)
  have hr : (g : Int) % 6 = 1 := by omega
  have hN : UnN ⟨9, 1, 0, 0, 0, 0⟩ := ⟨by decide, ⟨by decide, by decide, by decide⟩, by decide, by decide, by decide, by decide⟩
  have HJ := Lib.hid (fun h1 h2 => prefix_parse (A := exA) (F := exF) (X := exX) (a := a) (sg := ⟨#[75, 91, 98, 93]⟩) (u := [⟨#[75]⟩, ⟨#[91]⟩, ⟨#[98]⟩, ⟨#[93]⟩]) (n := ⟨9, 1, 0, 0, 0, 0⟩) hN (pre1_agent exA exF exX (a := 1) (.inl ⟨rfl, rfl⟩) (by decide) (by decide)) (fun b v h => TokW.word (w := [75]) ⟨_, _, rfl, by decide, by decide⟩ (brk_mark (by decide)) (TokW.mark (by decide) (TokW.word (w := [98]) ⟨_, _, rfl, by decide, by decide⟩ (brk_mark (by decide)) (TokW.mark (by decide) h)))) ha (by decide) (by decide) h1 h2)
  have hTs : (preT ⟨#[75, 91, 98, 93]⟩ a).size ≤ maxLen := by
    have e1 : (⟨#[40]⟩ : ByteArray).size = 1 := rfl
    have e2 : (⟨#[41, 32, 38, 32, 112]⟩ : ByteArray).size = 5 := rfl
    have e3 : (⟨#[75, 91, 98, 93]⟩ : ByteArray).size ≤ 10 := by decide
    unfold preT maxLen
    simp only [ByteArray.size_append]
    omega
  have hlA := parseV_len exA exF exX a
  have hlT := parseV_len exA exF exX (preT ⟨#[75, 91, 98, 93]⟩ a)
  have HPA := Lib.hid (fun v0 v1 v2 W hS hE => kParse_own (some ⟨v0, 0, none⟩) 2 2 (some ⟨v1, 0, none⟩) 3 3 (some ⟨v2, 0, none⟩) 1 1 exA exF exX a W hS hE (by unfold maxLen; omega))
  have HPT := Lib.hid (fun v0 v1 v2 W hS hE => kParse_own (some ⟨v0, 0, none⟩) 2 2 (some ⟨v1, 0, none⟩) 3 3 (some ⟨v2, 0, none⟩) 1 1 exA exF exX (preT ⟨#[75, 91, 98, 93]⟩ a) W hS hE hTs)
  have hT : (⟨#[75, 91, 98, 93]⟩ ++ ⟨#[40]⟩ ++ a ++ ⟨#[41, 32, 38, 32, 112]⟩ : ByteArray) = preT ⟨#[75, 91, 98, 93]⟩ a := rfl
  generalize hPA : parseV exA exF exX a = PA at *
  generalize hPT : parseV exA exF exX (preT ⟨#[75, 91, 98, 93]⟩ a) = PT at *
  clear hPA hPT
  obtain ⟨la, pa, ea⟩ := PA
  obtain ⟨lt, pt, et⟩ := PT
  dsimp only at HJ hlA hlT HPA HPT
  generalize preT ⟨#[75, 91, 98, 93]⟩ a = T at *
  have HE : Hid (∀ W, Below w.heap.size w W → EnvS W) := Lib.hid (fun W h => hE.below h)
  clear hE
  go_enter Tryd.func8, Tryd.ntmps8
  go_wp2_with fail
  refine (kExample_any w).mono ?_
  rintro e w1 ⟨g0, g1, g2, rfl, hS, hb⟩
  have HX := Lib.hid (@boxed w1 (some ⟨g0, 0, none⟩) (some ⟨g1, 0, none⟩) (some ⟨g2, 0, none⟩) 2 2 3 3 1 1 31)
  have HG : Hid (∀ W, Below (w1.heap.size + 1) (w1.alloc (.cells #[.slice (some ⟨g0, 0, none⟩) 2 2, .slice (some ⟨g1, 0, none⟩) 3 3, .slice (some ⟨g2, 0, none⟩) 1 1] 31)) W → EnvS W ∧ SigR W W.heap.size (.agg #[.slice (some ⟨g0, 0, none⟩) 2 2, .slice (some ⟨g1, 0, none⟩) 3 3, .slice (some ⟨g2, 0, none⟩) 1 1]) exA exF exX ∧ Below w.heap.size w W ∧ w1.heap.size + 1 ≤ W.heap.size) := Lib.hid (fun W hW => by
    have h1 : Below w1.heap.size w1 W := ((Below.refl _ w1).alloc (Nat.le_refl _) _).trans (hW.mono (by omega))
    have h2 : Below w.heap.size w W := hb.trans (h1.mono hb.size)
    exact ⟨HE.out W h2, hS.on h1, h2, by have := hW.size; simpa using this⟩)
  have HB0 := Lib.hid (Below.refl (w1.heap.size + 1) (w1.alloc (.cells #[.slice (some ⟨g0, 0, none⟩) 2 2, .slice (some ⟨g1, 0, none⟩) 3 3, .slice (some ⟨g2, 0, none⟩) 1 1] 31)))
  clear hS hb HE
  obtain ⟨q0, q1, q2⟩ := HX.out _ HB0.out
  go_wp2_with fail
  refine (HPA.out _ _ _ _ (HG.out _ HB0.out).2.1 (HG.out _ HB0.out).1).mono ?_
  rintro e w2 ⟨A1, c1, rfl, hO, hb⟩
  have HR1 := Lib.hid (Reads.of_own hO)
  have HB2 := Lib.hid (HB0.out.trans (hb.mono (HG.out _ HB0.out).2.2.2))
  clear hO hb HPA q0 q1 q2 HB0
  by_cases ha0 : ea = 0
  · subst ha0
    by_cases h100 : 100 < la.length
    · have d5 : decide ((100 : Int) < (la.length : Int)) = true := decide_eq_true (by omega)
      have d6 : decide (100 < la.length) = true := decide_eq_true h100
      generalize la.length = La at *
      clear HJ hlA hlT HR1 h100 hT hTs HPT
      go_wp2_with fail
      refine (awake_any _ (HG.out _ HB2.out).1).mono ?_
      rintro e v9 ⟨rfl, hb⟩
      have HB9 := Lib.hid (HB2.out.trans (hb.mono (HG.out _ HB2.out).2.2.2))
      clear hb
      go_wp2
      go_ret
      exact ⟨rfl, (HG.out _ HB9.out).2.2.1⟩
    · have d5 : decide ((100 : Int) < (la.length : Int)) = false := decide_eq_false (by omega)
      have d6 : decide (100 < la.length) = false := decide_eq_false h100
      obtain ⟨j1, j2⟩ := HJ.out rfl (by show la.length ≤ 100; omega)
      have HJ2 := Lib.hid j2
      subst j1
      have HB3 : Hid (Below (w1.heap.size + 1) (w1.alloc (.cells #[.slice (some ⟨g0, 0, none⟩) 2 2, .slice (some ⟨g1, 0, none⟩) 3 3, .slice (some ⟨g2, 0, none⟩) 1 1] 31)) (w2.alloc (.cells #[.string ⟨#[126]⟩, .string ⟨#[75, 91, 98, 93]⟩, .string ⟨#[77, 91, 97, 93]⟩, .string ⟨#[83, 91, 97, 93]⟩, .string ⟨#[110, 101, 120, 116, 32]⟩, .string ⟨#[112, 114, 101, 118, 32]⟩] 9))) := Lib.hid (HB2.out.alloc (HG.out _ HB2.out).2.2.2 _)
      have HB4 : Hid (Below (w1.heap.size + 1) (w1.alloc (.cells #[.slice (some ⟨g0, 0, none⟩) 2 2, .slice (some ⟨g1, 0, none⟩) 3 3, .slice (some ⟨g2, 0, none⟩) 1 1] 31)) ((w2.alloc (.cells #[.string ⟨#[126]⟩, .string ⟨#[75, 91, 98, 93]⟩, .string ⟨#[77, 91, 97, 93]⟩, .string ⟨#[83, 91, 97, 93]⟩, .string ⟨#[110, 101, 120, 116, 32]⟩, .string ⟨#[112, 114, 101, 118, 32]⟩] 9)).alloc (.cells (nds [⟨3, 0, 0, 0, 0, 0⟩]).toArray 47))) := Lib.hid (HB3.out.alloc (HG.out _ HB3.out).2.2.2 _)
      have hb4 : Below w2.heap.size w2 ((w2.alloc (.cells #[.string ⟨#[126]⟩, .string ⟨#[75, 91, 98, 93]⟩, .string ⟨#[77, 91, 97, 93]⟩, .string ⟨#[83, 91, 97, 93]⟩, .string ⟨#[110, 101, 120, 116, 32]⟩, .string ⟨#[112, 114, 101, 118, 32]⟩] 9)).alloc (.cells (nds [⟨3, 0, 0, 0, 0, 0⟩]).toArray 47)) := ((Below.refl _ w2).alloc (Nat.le_refl _) _).alloc (by simp) _
      have HRp := Lib.hid (reads_nds' (w2.alloc (.cells #[.string ⟨#[126]⟩, .string ⟨#[75, 91, 98, 93]⟩, .string ⟨#[77, 91, 97, 93]⟩, .string ⟨#[83, 91, 97, 93]⟩, .string ⟨#[110, 101, 120, 116, 32]⟩, .string ⟨#[112, 114, 101, 118, 32]⟩] 9)) [⟨3, 0, 0, 0, 0, 0⟩] 47)
      have hsz : (w2.alloc (.cells #[.string ⟨#[126]⟩, .string ⟨#[75, 91, 98, 93]⟩, .string ⟨#[77, 91, 97, 93]⟩, .string ⟨#[83, 91, 97, 93]⟩, .string ⟨#[110, 101, 120, 116, 32]⟩, .string ⟨#[112, 114, 101, 118, 32]⟩] 9)).heap.size = w2.heap.size + 1 := by simp
      rw [hsz] at HRp
      have HRa := Lib.hid ((HR1.out.below hb4).more hb4.size)
      have hnd : (nds [⟨3, 0, 0, 0, 0, 0⟩]).toArray = #[.int .i64 3, .int .i64 0, .int .i64 0, .int .i64 0, .int .i64 0, .int .i64 0] := rfl
      rw [hnd] at HB4 HRp HRa
      clear hb4 hsz HR1 HB3 HB2 hnd j2
      go_wp2_with fail
      generalize (w2.alloc (.cells #[.string ⟨#[126]⟩, .string ⟨#[75, 91, 98, 93]⟩, .string ⟨#[77, 91, 97, 93]⟩, .string ⟨#[83, 91, 97, 93]⟩, .string ⟨#[110, 101, 120, 116, 32]⟩, .string ⟨#[112, 114, 101, 118, 32]⟩] 9)).alloc (.cells #[.int .i64 3, .int .i64 0, .int .i64 0, .int .i64 0, .int .i64 0, .int .i64 0] 47) = w4 at *
      refine (pKnow_any 1 la A1 la.length c1 w4 HRa.out (by unfold maxLen; omega)).mono ?_
      rintro e w5 ⟨A2, c2, rfl, hR2, hb⟩
      have HR2 := Lib.hid hR2
      have HRb := Lib.hid ((HRp.out.below hb).more hb.size)
      have HB5 := Lib.hid (HB4.out.trans (hb.mono (HG.out _ HB4.out).2.2.2))
      clear hR2 hb HB4 HRp HRa
      have hqn := buildF_len6 ⟨9, 1, 0, 0, 0, 0⟩ [la]
      have hqm := buildF_len6 ⟨5, 0, 0, 0, 0, 0⟩ [buildF ⟨9, 1, 0, 0, 0, 0⟩ [la], [⟨3, 0, 0, 0, 0, 0⟩]]
      have HJ3 : Hid (sameF lt (buildF ⟨5, 0, 0, 0, 0, 0⟩ [buildF ⟨9, 1, 0, 0, 0, 0⟩ [la], [⟨3, 0, 0, 0, 0, 0⟩]]) = true) := HJ2
      clear HJ2
      generalize buildF ⟨9, 1, 0, 0, 0, 0⟩ [la] = q at *
      obtain ⟨q0, q1, q2⟩ := HX.out _ HB5.out
      go_wp2_with fail
      refine (HPT.out _ _ _ w5 (HG.out _ HB5.out).2.1 (HG.out _ HB5.out).1).mono ?_
      rintro e w6 ⟨A3, c3, rfl, hO, hb⟩
      have HR3 := Lib.hid (Reads.of_own hO)
      have HB6 := Lib.hid (HB5.out.trans (hb.mono (HG.out _ HB5.out).2.2.2))
      have HRc := Lib.hid ((HR2.out.below hb).more hb.size)
      have HRd := Lib.hid ((HRb.out.below hb).more hb.size)
      clear hO hb HPT q0 q1 q2 HB5 HR2 HRb hT hTs
      have HC := Lib.hid (pAnd_any q A2 q.length c2 [⟨3, 0, 0, 0, 0, 0⟩] (some ⟨w2.heap.size + 1, 0, none⟩) 1 1 w6 HRc.out (by unfold maxLen; omega) HRd.out (by unfold maxLen; omega))
      have HSM := Lib.hid (fun A4 c4 W (h1 : Reads W W.heap.size 6 A3 lt.length (nds lt)) (h2 : Reads W W.heap.size 6 A4 (buildF ⟨5, 0, 0, 0, 0, 0⟩ [q, [⟨3, 0, 0, 0, 0, 0⟩]]).length (nds (buildF ⟨5, 0, 0, 0, 0, 0⟩ [q, [⟨3, 0, 0, 0, 0, 0⟩]]))) => pSame_any lt (buildF ⟨5, 0, 0, 0, 0, 0⟩ [q, [⟨3, 0, 0, 0, 0, 0⟩]]) A3 A4 lt.length _ c3 c4 W h1 h2 (by unfold maxLen; omega) (by unfold maxLen; omega))
      rw [HJ3.out] at HSM
      generalize buildF ⟨5, 0, 0, 0, 0, 0⟩ [q, [⟨3, 0, 0, 0, 0, 0⟩]] = qq at *
      clear HJ hlA hlT HRc HRd hqn hqm h100 HJ3
      go_wp2_with fail
      refine (HC.out).mono ?_
      rintro e w7 ⟨A4, c4, rfl, hR4, hb⟩
      have HB7 := Lib.hid (HB6.out.trans (hb.mono (HG.out _ HB6.out).2.2.2))
      have HS7 := Lib.hid (HSM.out A4 c4 w7 ((HR3.out.below hb).more hb.size) hR4)
      clear hb hR4 HC HSM HR3 HB6
      go_wp2_with fail
      refine (HS7.out).mono ?_
      rintro e w8 ⟨rfl, hb⟩
      have HB8 := Lib.hid (HB7.out.trans (hb.mono (HG.out _ HB7.out).2.2.2))
      clear hb HS7 HB7
      go_wp2_with fail
      refine (awake_any _ (HG.out _ HB8.out).1).mono ?_
      rintro e v9 ⟨rfl, hb⟩
      have HB9 := Lib.hid (HB8.out.trans (hb.mono (HG.out _ HB8.out).2.2.2))
      clear hb
      go_wp2
      go_ret
      exact ⟨rfl, (HG.out _ HB9.out).2.2.1⟩
  · have hne : (ea != 0) = true := by rw [bne_iff_ne]; exact ha0
    clear HJ hlA hlT HR1 ha0 hT hTs HPT
    go_wp2_with fail
    refine (awake_any _ (HG.out _ HB2.out).1).mono ?_
    rintro e v9 ⟨rfl, hb⟩
    have HB9 := Lib.hid (HB2.out.trans (hb.mono (HG.out _ HB2.out).2.2.2))
    clear hb
    go_wp2
    go_ret
    exact ⟨rfl, (HG.out _ HB9.out).2.2.1⟩
set_option maxRecDepth 100000 in
set_option maxHeartbeats 8000000 in
theorem walk2 (a : ByteArray) (g : Nat) (w : World) (ha : a.size ≤ 200) (hg : g % 6 = 2) (hE : EnvS w) :
    Calls Tryd.prog 8 #[.string a, .int .u8 g] w fun e w' => e = .returned (.bool true) ∧ Below w.heap.size w w' := by
  have d1 : decide ((200 : Int) < (a.size : Int)) = false := decide_eq_false (by omega)
  have d2 : decide (200 < a.size) = false := decide_eq_false (by omega)
  have hr : (g : Int) % 6 = 2 := by omega
  have hN : UnN ⟨10, 0, 0, 0, 0, 0⟩ := ⟨by decide, ⟨by decide, by decide, by decide⟩, by decide, by decide, by decide, by decide⟩
  have HJ := Lib.hid (fun h1 h2 => prefix_parse (A := exA) (F := exF) (X := exX) (a := a) (sg := ⟨#[77, 91, 97, 93]⟩) (u := [⟨#[77]⟩, ⟨#[91]⟩, ⟨#[97]⟩, ⟨#[93]⟩]) (n := ⟨10, 0, 0, 0, 0, 0⟩) hN (pre1_agent exA exF exX (a := 0) (.inr (.inl ⟨rfl, rfl⟩)) (by decide) (by decide)) (fun b v h => TokW.word (w := [77]) ⟨_, _, rfl, by decide, by decide⟩ (brk_mark (by decide)) (TokW.mark (by decide) (TokW.word (w := [97]) ⟨_, _, rfl, by decide, by decide⟩ (brk_mark (by decide)) (TokW.mark (by decide) h)))) ha (by decide) (by decide) h1 h2)
  have hTs : (preT ⟨#[77, 91, 97, 93]⟩ a).size ≤ maxLen := by
    have e1 : (⟨#[40]⟩ : ByteArray).size = 1 := rfl
    have e2 : (⟨#[41, 32, 38, 32, 112]⟩ : ByteArray).size = 5 := rfl
    have e3 : (⟨#[77, 91, 97, 93]⟩ : ByteArray).size ≤ 10 := by decide
    unfold preT maxLen
    simp only [ByteArray.size_append]
    omega
  have hlA := parseV_len exA exF exX a
  have hlT := parseV_len exA exF exX (preT ⟨#[77, 91, 97, 93]⟩ a)
  have HPA := Lib.hid (fun v0 v1 v2 W hS hE => kParse_own (some ⟨v0, 0, none⟩) 2 2 (some ⟨v1, 0, none⟩) 3 3 (some ⟨v2, 0, none⟩) 1 1 exA exF exX a W hS hE (by unfold maxLen; omega))
  have HPT := Lib.hid (fun v0 v1 v2 W hS hE => kParse_own (some ⟨v0, 0, none⟩) 2 2 (some ⟨v1, 0, none⟩) 3 3 (some ⟨v2, 0, none⟩) 1 1 exA exF exX (preT ⟨#[77, 91, 97, 93]⟩ a) W hS hE hTs)
  have hT : (⟨#[77, 91, 97, 93]⟩ ++ ⟨#[40]⟩ ++ a ++ ⟨#[41, 32, 38, 32, 112]⟩ : ByteArray) = preT ⟨#[77, 91, 97, 93]⟩ a := rfl
  generalize hPA : parseV exA exF exX a = PA at *
  generalize hPT : parseV exA exF exX (preT ⟨#[77, 91, 97, 93]⟩ a) = PT at *
  clear hPA hPT
  obtain ⟨la, pa, ea⟩ := PA
  obtain ⟨lt, pt, et⟩ := PT
  dsimp only at HJ hlA hlT HPA HPT
  generalize preT ⟨#[77, 91, 97, 93]⟩ a = T at *
  have HE : Hid (∀ W, Below w.heap.size w W → EnvS W) := Lib.hid (fun W h => hE.below h)
  clear hE
  go_enter Tryd.func8, Tryd.ntmps8
  go_wp2_with fail
  refine (kExample_any w).mono ?_
  rintro e w1 ⟨g0, g1, g2, rfl, hS, hb⟩
  have HX := Lib.hid (@boxed w1 (some ⟨g0, 0, none⟩) (some ⟨g1, 0, none⟩) (some ⟨g2, 0, none⟩) 2 2 3 3 1 1 31)
  have HG : Hid (∀ W, Below (w1.heap.size + 1) (w1.alloc (.cells #[.slice (some ⟨g0, 0, none⟩) 2 2, .slice (some ⟨g1, 0, none⟩) 3 3, .slice (some ⟨g2, 0, none⟩) 1 1] 31)) W → EnvS W ∧ SigR W W.heap.size (.agg #[.slice (some ⟨g0, 0, none⟩) 2 2, .slice (some ⟨g1, 0, none⟩) 3 3, .slice (some ⟨g2, 0, none⟩) 1 1]) exA exF exX ∧ Below w.heap.size w W ∧ w1.heap.size + 1 ≤ W.heap.size) := Lib.hid (fun W hW => by
    have h1 : Below w1.heap.size w1 W := ((Below.refl _ w1).alloc (Nat.le_refl _) _).trans (hW.mono (by omega))
    have h2 : Below w.heap.size w W := hb.trans (h1.mono hb.size)
    exact ⟨HE.out W h2, hS.on h1, h2, by have := hW.size; simpa using this⟩)
  have HB0 := Lib.hid (Below.refl (w1.heap.size + 1) (w1.alloc (.cells #[.slice (some ⟨g0, 0, none⟩) 2 2, .slice (some ⟨g1, 0, none⟩) 3 3, .slice (some ⟨g2, 0, none⟩) 1 1] 31)))
  clear hS hb HE
  obtain ⟨q0, q1, q2⟩ := HX.out _ HB0.out
  go_wp2_with fail
  refine (HPA.out _ _ _ _ (HG.out _ HB0.out).2.1 (HG.out _ HB0.out).1).mono ?_
  rintro e w2 ⟨A1, c1, rfl, hO, hb⟩
  have HR1 := Lib.hid (Reads.of_own hO)
  have HB2 := Lib.hid (HB0.out.trans (hb.mono (HG.out _ HB0.out).2.2.2))
  clear hO hb HPA q0 q1 q2 HB0
  by_cases ha0 : ea = 0
  · subst ha0
    by_cases h100 : 100 < la.length
    · have d5 : decide ((100 : Int) < (la.length : Int)) = true := decide_eq_true (by omega)
      have d6 : decide (100 < la.length) = true := decide_eq_true h100
      generalize la.length = La at *
      clear HJ hlA hlT HR1 h100 hT hTs HPT
      go_wp2_with fail
      refine (awake_any _ (HG.out _ HB2.out).1).mono ?_
      rintro e v9 ⟨rfl, hb⟩
      have HB9 := Lib.hid (HB2.out.trans (hb.mono (HG.out _ HB2.out).2.2.2))
      clear hb
      go_wp2
      go_ret
      exact ⟨rfl, (HG.out _ HB9.out).2.2.1⟩
    · have d5 : decide ((100 : Int) < (la.length : Int)) = false := decide_eq_false (by omega)
      have d6 : decide (100 < la.length) = false := decide_eq_false h100
      obtain ⟨j1, j2⟩ := HJ.out rfl (by show la.length ≤ 100; omega)
      have HJ2 := Lib.hid j2
      subst j1
      have HB3 : Hid (Below (w1.heap.size + 1) (w1.alloc (.cells #[.slice (some ⟨g0, 0, none⟩) 2 2, .slice (some ⟨g1, 0, none⟩) 3 3, .slice (some ⟨g2, 0, none⟩) 1 1] 31)) (w2.alloc (.cells #[.string ⟨#[126]⟩, .string ⟨#[75, 91, 98, 93]⟩, .string ⟨#[77, 91, 97, 93]⟩, .string ⟨#[83, 91, 97, 93]⟩, .string ⟨#[110, 101, 120, 116, 32]⟩, .string ⟨#[112, 114, 101, 118, 32]⟩] 9))) := Lib.hid (HB2.out.alloc (HG.out _ HB2.out).2.2.2 _)
      have HB4 : Hid (Below (w1.heap.size + 1) (w1.alloc (.cells #[.slice (some ⟨g0, 0, none⟩) 2 2, .slice (some ⟨g1, 0, none⟩) 3 3, .slice (some ⟨g2, 0, none⟩) 1 1] 31)) ((w2.alloc (.cells #[.string ⟨#[126]⟩, .string ⟨#[75, 91, 98, 93]⟩, .string ⟨#[77, 91, 97, 93]⟩, .string ⟨#[83, 91, 97, 93]⟩, .string ⟨#[110, 101, 120, 116, 32]⟩, .string ⟨#[112, 114, 101, 118, 32]⟩] 9)).alloc (.cells (nds [⟨3, 0, 0, 0, 0, 0⟩]).toArray 47))) := Lib.hid (HB3.out.alloc (HG.out _ HB3.out).2.2.2 _)
      have hb4 : Below w2.heap.size w2 ((w2.alloc (.cells #[.string ⟨#[126]⟩, .string ⟨#[75, 91, 98, 93]⟩, .string ⟨#[77, 91, 97, 93]⟩, .string ⟨#[83, 91, 97, 93]⟩, .string ⟨#[110, 101, 120, 116, 32]⟩, .string ⟨#[112, 114, 101, 118, 32]⟩] 9)).alloc (.cells (nds [⟨3, 0, 0, 0, 0, 0⟩]).toArray 47)) := ((Below.refl _ w2).alloc (Nat.le_refl _) _).alloc (by simp) _
      have HRp := Lib.hid (reads_nds' (w2.alloc (.cells #[.string ⟨#[126]⟩, .string ⟨#[75, 91, 98, 93]⟩, .string ⟨#[77, 91, 97, 93]⟩, .string ⟨#[83, 91, 97, 93]⟩, .string ⟨#[110, 101, 120, 116, 32]⟩, .string ⟨#[112, 114, 101, 118, 32]⟩] 9)) [⟨3, 0, 0, 0, 0, 0⟩] 47)
      have hsz : (w2.alloc (.cells #[.string ⟨#[126]⟩, .string ⟨#[75, 91, 98, 93]⟩, .string ⟨#[77, 91, 97, 93]⟩, .string ⟨#[83, 91, 97, 93]⟩, .string ⟨#[110, 101, 120, 116, 32]⟩, .string ⟨#[112, 114, 101, 118, 32]⟩] 9)).heap.size = w2.heap.size + 1 := by simp
      rw [hsz] at HRp
      have HRa := Lib.hid ((HR1.out.below hb4).more hb4.size)
      have hnd : (nds [⟨3, 0, 0, 0, 0, 0⟩]).toArray = #[.int .i64 3, .int .i64 0, .int .i64 0, .int .i64 0, .int .i64 0, .int .i64 0] := rfl
      rw [hnd] at HB4 HRp HRa
      clear hb4 hsz HR1 HB3 HB2 hnd j2
      go_wp2_with fail
      generalize (w2.alloc (.cells #[.string ⟨#[126]⟩, .string ⟨#[75, 91, 98, 93]⟩, .string ⟨#[77, 91, 97, 93]⟩, .string ⟨#[83, 91, 97, 93]⟩, .string ⟨#[110, 101, 120, 116, 32]⟩, .string ⟨#[112, 114, 101, 118, 32]⟩] 9)).alloc (.cells #[.int .i64 3, .int .i64 0, .int .i64 0, .int .i64 0, .int .i64 0, .int .i64 0] 47) = w4 at *
      refine (pPoss_any 0 la A1 la.length c1 w4 HRa.out (by unfold maxLen; omega)).mono ?_
      rintro e w5 ⟨A2, c2, rfl, hR2, hb⟩
      have HR2 := Lib.hid hR2
      have HRb := Lib.hid ((HRp.out.below hb).more hb.size)
      have HB5 := Lib.hid (HB4.out.trans (hb.mono (HG.out _ HB4.out).2.2.2))
      clear hR2 hb HB4 HRp HRa
      have hqn := buildF_len6 ⟨10, 0, 0, 0, 0, 0⟩ [la]
      have hqm := buildF_len6 ⟨5, 0, 0, 0, 0, 0⟩ [buildF ⟨10, 0, 0, 0, 0, 0⟩ [la], [⟨3, 0, 0, 0, 0, 0⟩]]
      have HJ3 : Hid (sameF lt (buildF ⟨5, 0, 0, 0, 0, 0⟩ [buildF ⟨10, 0, 0, 0, 0, 0⟩ [la], [⟨3, 0, 0, 0, 0, 0⟩]]) = true) := HJ2
      clear HJ2
      generalize buildF ⟨10, 0, 0, 0, 0, 0⟩ [la] = q at *
      obtain ⟨q0, q1, q2⟩ := HX.out _ HB5.out
      go_wp2_with fail
      refine (HPT.out _ _ _ w5 (HG.out _ HB5.out).2.1 (HG.out _ HB5.out).1).mono ?_
      rintro e w6 ⟨A3, c3, rfl, hO, hb⟩
      have HR3 := Lib.hid (Reads.of_own hO)
      have HB6 := Lib.hid (HB5.out.trans (hb.mono (HG.out _ HB5.out).2.2.2))
      have HRc := Lib.hid ((HR2.out.below hb).more hb.size)
      have HRd := Lib.hid ((HRb.out.below hb).more hb.size)
      clear hO hb HPT q0 q1 q2 HB5 HR2 HRb hT hTs
      have HC := Lib.hid (pAnd_any q A2 q.length c2 [⟨3, 0, 0, 0, 0, 0⟩] (some ⟨w2.heap.size + 1, 0, none⟩) 1 1 w6 HRc.out (by unfold maxLen; omega) HRd.out (by unfold maxLen; omega))
      have HSM := Lib.hid (fun A4 c4 W (h1 : Reads W W.heap.size 6 A3 lt.length (nds lt)) (h2 : Reads W W.heap.size 6 A4 (buildF ⟨5, 0, 0, 0, 0, 0⟩ [q, [⟨3, 0, 0, 0, 0, 0⟩]]).length (nds (buildF ⟨5, 0, 0, 0, 0, 0⟩ [q, [⟨3, 0, 0, 0, 0, 0⟩]]))) => pSame_any lt (buildF ⟨5, 0, 0, 0, 0, 0⟩ [q, [⟨3, 0, 0, 0, 0, 0⟩]]) A3 A4 lt.length _ c3 c4 W h1 h2 (by unfold maxLen; omega) (by unfold maxLen; omega))
      rw [HJ3.out] at HSM
      generalize buildF ⟨5, 0, 0, 0, 0, 0⟩ [q, [⟨3, 0, 0, 0, 0, 0⟩]] = qq at *
      clear HJ hlA hlT HRc HRd hqn hqm h100 HJ3
      go_wp2_with fail
      refine (HC.out).mono ?_
      rintro e w7 ⟨A4, c4, rfl, hR4, hb⟩
      have HB7 := Lib.hid (HB6.out.trans (hb.mono (HG.out _ HB6.out).2.2.2))
      have HS7 := Lib.hid (HSM.out A4 c4 w7 ((HR3.out.below hb).more hb.size) hR4)
      clear hb hR4 HC HSM HR3 HB6
      go_wp2_with fail
      refine (HS7.out).mono ?_
      rintro e w8 ⟨rfl, hb⟩
      have HB8 := Lib.hid (HB7.out.trans (hb.mono (HG.out _ HB7.out).2.2.2))
      clear hb HS7 HB7
      go_wp2_with fail
      refine (awake_any _ (HG.out _ HB8.out).1).mono ?_
      rintro e v9 ⟨rfl, hb⟩
      have HB9 := Lib.hid (HB8.out.trans (hb.mono (HG.out _ HB8.out).2.2.2))
      clear hb
      go_wp2
      go_ret
      exact ⟨rfl, (HG.out _ HB9.out).2.2.1⟩
  · have hne : (ea != 0) = true := by rw [bne_iff_ne]; exact ha0
    clear HJ hlA hlT HR1 ha0 hT hTs HPT
    go_wp2_with fail
    refine (awake_any _ (HG.out _ HB2.out).1).mono ?_
    rintro e v9 ⟨rfl, hb⟩
    have HB9 := Lib.hid (HB2.out.trans (hb.mono (HG.out _ HB2.out).2.2.2))
    clear hb
    go_wp2
    go_ret
    exact ⟨rfl, (HG.out _ HB9.out).2.2.1⟩
set_option maxRecDepth 100000 in
set_option maxHeartbeats 8000000 in
theorem walk3 (a : ByteArray) (g : Nat) (w : World) (ha : a.size ≤ 200) (hg : g % 6 = 3) (hE : EnvS w) :
    Calls Tryd.prog 8 #[.string a, .int .u8 g] w fun e w' => e = .returned (.bool true) ∧ Below w.heap.size w w' := by
  have d1 : decide ((200 : Int) < (a.size : Int)) = false := decide_eq_false (by omega)
  have d2 : decide (200 < a.size) = false := decide_eq_false (by omega)
  have hr : (g : Int) % 6 = 3 := by omega
  have hN : UnN ⟨15, 0, 0, 0, 0, 0⟩ := ⟨by decide, ⟨by decide, by decide, by decide⟩, by decide, by decide, by decide, by decide⟩
  have HJ := Lib.hid (fun h1 h2 => prefix_parse (A := exA) (F := exF) (X := exX) (a := a) (sg := ⟨#[83, 91, 97, 93]⟩) (u := [⟨#[83]⟩, ⟨#[91]⟩, ⟨#[97]⟩, ⟨#[93]⟩]) (n := ⟨15, 0, 0, 0, 0, 0⟩) hN (pre1_agent exA exF exX (a := 0) (.inr (.inr ⟨rfl, rfl⟩)) (by decide) (by decide)) (fun b v h => TokW.word (w := [83]) ⟨_, _, rfl, by decide, by decide⟩ (brk_mark (by decide)) (TokW.mark (by decide) (TokW.word (w := [97]) ⟨_, _, rfl, by decide, by decide⟩ (brk_mark (by decide)) (TokW.mark (by decide) h)))) ha (by decide) (by decide) h1 h2)
  have hTs : (preT ⟨#[83, 91, 97, 93]⟩ a).size ≤ maxLen := by
    have e1 : (⟨#[40]⟩ : ByteArray).size = 1 := rfl
    have e2 : (⟨#[41, 32, 38, 32, 112]⟩ : ByteArray).size = 5 := rfl
    have e3 : (⟨#[83, 91, 97, 93]⟩ : ByteArray).size ≤ 10 := by decide
    unfold preT maxLen
    simp only [ByteArray.size_append]
    omega
  have hlA := parseV_len exA exF exX a
  have hlT := parseV_len exA exF exX (preT ⟨#[83, 91, 97, 93]⟩ a)
  have HPA := Lib.hid (fun v0 v1 v2 W hS hE => kParse_own (some ⟨v0, 0, none⟩) 2 2 (some ⟨v1, 0, none⟩) 3 3 (some ⟨v2, 0, none⟩) 1 1 exA exF exX a W hS hE (by unfold maxLen; omega))
  have HPT := Lib.hid (fun v0 v1 v2 W hS hE => kParse_own (some ⟨v0, 0, none⟩) 2 2 (some ⟨v1, 0, none⟩) 3 3 (some ⟨v2, 0, none⟩) 1 1 exA exF exX (preT ⟨#[83, 91, 97, 93]⟩ a) W hS hE hTs)
  have hT : (⟨#[83, 91, 97, 93]⟩ ++ ⟨#[40]⟩ ++ a ++ ⟨#[41, 32, 38, 32, 112]⟩ : ByteArray) = preT ⟨#[83, 91, 97, 93]⟩ a := rfl
  generalize hPA : parseV exA exF exX a = PA at *
  generalize hPT : parseV exA exF exX (preT ⟨#[83, 91, 97, 93]⟩ a) = PT at *
  clear hPA hPT
  obtain ⟨la, pa, ea⟩ := PA
  obtain ⟨lt, pt, et⟩ := PT
  dsimp only at HJ hlA hlT HPA HPT
  generalize preT ⟨#[83, 91, 97, 93]⟩ a = T at *
  have HE : Hid (∀ W, Below w.heap.size w W → EnvS W) := Lib.hid (fun W h => hE.below h)
  clear hE
  go_enter Tryd.func8, Tryd.ntmps8
  go_wp2_with fail
  refine (kExample_any w).mono ?_
  rintro e w1 ⟨g0, g1, g2, rfl, hS, hb⟩
  have HX := Lib.hid (@boxed w1 (some ⟨g0, 0, none⟩) (some ⟨g1, 0, none⟩) (some ⟨g2, 0, none⟩) 2 2 3 3 1 1 31)
  have HG : Hid (∀ W, Below (w1.heap.size + 1) (w1.alloc (.cells #[.slice (some ⟨g0, 0, none⟩) 2 2, .slice (some ⟨g1, 0, none⟩) 3 3, .slice (some ⟨g2, 0, none⟩) 1 1] 31)) W → EnvS W ∧ SigR W W.heap.size (.agg #[.slice (some ⟨g0, 0, none⟩) 2 2, .slice (some ⟨g1, 0, none⟩) 3 3, .slice (some ⟨g2, 0, none⟩) 1 1]) exA exF exX ∧ Below w.heap.size w W ∧ w1.heap.size + 1 ≤ W.heap.size) := Lib.hid (fun W hW => by
    have h1 : Below w1.heap.size w1 W := ((Below.refl _ w1).alloc (Nat.le_refl _) _).trans (hW.mono (by omega))
    have h2 : Below w.heap.size w W := hb.trans (h1.mono hb.size)
    exact ⟨HE.out W h2, hS.on h1, h2, by have := hW.size; simpa using this⟩)
  have HB0 := Lib.hid (Below.refl (w1.heap.size + 1) (w1.alloc (.cells #[.slice (some ⟨g0, 0, none⟩) 2 2, .slice (some ⟨g1, 0, none⟩) 3 3, .slice (some ⟨g2, 0, none⟩) 1 1] 31)))
  clear hS hb HE
  obtain ⟨q0, q1, q2⟩ := HX.out _ HB0.out
  go_wp2_with fail
  refine (HPA.out _ _ _ _ (HG.out _ HB0.out).2.1 (HG.out _ HB0.out).1).mono ?_
  rintro e w2 ⟨A1, c1, rfl, hO, hb⟩
  have HR1 := Lib.hid (Reads.of_own hO)
  have HB2 := Lib.hid (HB0.out.trans (hb.mono (HG.out _ HB0.out).2.2.2))
  clear hO hb HPA q0 q1 q2 HB0
  by_cases ha0 : ea = 0
  · subst ha0
    by_cases h100 : 100 < la.length
    · have d5 : decide ((100 : Int) < (la.length : Int)) = true := decide_eq_true (by omega)
      have d6 : decide (100 < la.length) = true := decide_eq_true h100
      generalize la.length = La at *
      clear HJ hlA hlT HR1 h100 hT hTs HPT
      go_wp2_with fail
      refine (awake_any _ (HG.out _ HB2.out).1).mono ?_
      rintro e v9 ⟨rfl, hb⟩
      have HB9 := Lib.hid (HB2.out.trans (hb.mono (HG.out _ HB2.out).2.2.2))
      clear hb
      go_wp2
      go_ret
      exact ⟨rfl, (HG.out _ HB9.out).2.2.1⟩
    · have d5 : decide ((100 : Int) < (la.length : Int)) = false := decide_eq_false (by omega)
      have d6 : decide (100 < la.length) = false := decide_eq_false h100
      obtain ⟨j1, j2⟩ := HJ.out rfl (by show la.length ≤ 100; omega)
      have HJ2 := Lib.hid j2
      subst j1
      have HB3 : Hid (Below (w1.heap.size + 1) (w1.alloc (.cells #[.slice (some ⟨g0, 0, none⟩) 2 2, .slice (some ⟨g1, 0, none⟩) 3 3, .slice (some ⟨g2, 0, none⟩) 1 1] 31)) (w2.alloc (.cells #[.string ⟨#[126]⟩, .string ⟨#[75, 91, 98, 93]⟩, .string ⟨#[77, 91, 97, 93]⟩, .string ⟨#[83, 91, 97, 93]⟩, .string ⟨#[110, 101, 120, 116, 32]⟩, .string ⟨#[112, 114, 101, 118, 32]⟩] 9))) := Lib.hid (HB2.out.alloc (HG.out _ HB2.out).2.2.2 _)
      have HB4 : Hid (Below (w1.heap.size + 1) (w1.alloc (.cells #[.slice (some ⟨g0, 0, none⟩) 2 2, .slice (some ⟨g1, 0, none⟩) 3 3, .slice (some ⟨g2, 0, none⟩) 1 1] 31)) ((w2.alloc (.cells #[.string ⟨#[126]⟩, .string ⟨#[75, 91, 98, 93]⟩, .string ⟨#[77, 91, 97, 93]⟩, .string ⟨#[83, 91, 97, 93]⟩, .string ⟨#[110, 101, 120, 116, 32]⟩, .string ⟨#[112, 114, 101, 118, 32]⟩] 9)).alloc (.cells (nds [⟨3, 0, 0, 0, 0, 0⟩]).toArray 47))) := Lib.hid (HB3.out.alloc (HG.out _ HB3.out).2.2.2 _)
      have hb4 : Below w2.heap.size w2 ((w2.alloc (.cells #[.string ⟨#[126]⟩, .string ⟨#[75, 91, 98, 93]⟩, .string ⟨#[77, 91, 97, 93]⟩, .string ⟨#[83, 91, 97, 93]⟩, .string ⟨#[110, 101, 120, 116, 32]⟩, .string ⟨#[112, 114, 101, 118, 32]⟩] 9)).alloc (.cells (nds [⟨3, 0, 0, 0, 0, 0⟩]).toArray 47)) := ((Below.refl _ w2).alloc (Nat.le_refl _) _).alloc (by simp) _
      have HRp := Lib.hid (reads_nds' (w2.alloc (.cells #[.string ⟨#[126]⟩, .string ⟨#[75, 91, 98, 93]⟩, .string ⟨#[77, 91, 97, 93]⟩, .string ⟨#[83, 91, 97, 93]⟩, .string ⟨#[110, 101, 120, 116, 32]⟩, .string ⟨#[112, 114, 101, 118, 32]⟩] 9)) [⟨3, 0, 0, 0, 0, 0⟩] 47)
      have hsz : (w2.alloc (.cells #[.string ⟨#[126]⟩, .string ⟨#[75, 91, 98, 93]⟩, .string ⟨#[77, 91, 97, 93]⟩, .string ⟨#[83, 91, 97, 93]⟩, .string ⟨#[110, 101, 120, 116, 32]⟩, .string ⟨#[112, 114, 101, 118, 32]⟩] 9)).heap.size = w2.heap.size + 1 := by simp
      rw [hsz] at HRp
      have HRa := Lib.hid ((HR1.out.below hb4).more hb4.size)
      have hnd : (nds [⟨3, 0, 0, 0, 0, 0⟩]).toArray = #[.int .i64 3, .int .i64 0, .int .i64 0, .int .i64 0, .int .i64 0, .int .i64 0] := rfl
      rw [hnd] at HB4 HRp HRa
      clear hb4 hsz HR1 HB3 HB2 hnd j2
      go_wp2_with fail
      generalize (w2.alloc (.cells #[.string ⟨#[126]⟩, .string ⟨#[75, 91, 98, 93]⟩, .string ⟨#[77, 91, 97, 93]⟩, .string ⟨#[83, 91, 97, 93]⟩, .string ⟨#[110, 101, 120, 116, 32]⟩, .string ⟨#[112, 114, 101, 118, 32]⟩] 9)).alloc (.cells #[.int .i64 3, .int .i64 0, .int .i64 0, .int .i64 0, .int .i64 0, .int .i64 0] 47) = w4 at *
      refine (pSafe_any 0 la A1 la.length c1 w4 HRa.out (by unfold maxLen; omega)).mono ?_
      rintro e w5 ⟨A2, c2, rfl, hR2, hb⟩
      have HR2 := Lib.hid hR2
      have HRb := Lib.hid ((HRp.out.below hb).more hb.size)
      have HB5 := Lib.hid (HB4.out.trans (hb.mono (HG.out _ HB4.out).2.2.2))
      clear hR2 hb HB4 HRp HRa
      have hqn := buildF_len6 ⟨15, 0, 0, 0, 0, 0⟩ [la]
      have hqm := buildF_len6 ⟨5, 0, 0, 0, 0, 0⟩ [buildF ⟨15, 0, 0, 0, 0, 0⟩ [la], [⟨3, 0, 0, 0, 0, 0⟩]]
      have HJ3 : Hid (sameF lt (buildF ⟨5, 0, 0, 0, 0, 0⟩ [buildF ⟨15, 0, 0, 0, 0, 0⟩ [la], [⟨3, 0, 0, 0, 0, 0⟩]]) = true) := HJ2
      clear HJ2
      generalize buildF ⟨15, 0, 0, 0, 0, 0⟩ [la] = q at *
      obtain ⟨q0, q1, q2⟩ := HX.out _ HB5.out
      go_wp2_with fail
      refine (HPT.out _ _ _ w5 (HG.out _ HB5.out).2.1 (HG.out _ HB5.out).1).mono ?_
      rintro e w6 ⟨A3, c3, rfl, hO, hb⟩
      have HR3 := Lib.hid (Reads.of_own hO)
      have HB6 := Lib.hid (HB5.out.trans (hb.mono (HG.out _ HB5.out).2.2.2))
      have HRc := Lib.hid ((HR2.out.below hb).more hb.size)
      have HRd := Lib.hid ((HRb.out.below hb).more hb.size)
      clear hO hb HPT q0 q1 q2 HB5 HR2 HRb hT hTs
      have HC := Lib.hid (pAnd_any q A2 q.length c2 [⟨3, 0, 0, 0, 0, 0⟩] (some ⟨w2.heap.size + 1, 0, none⟩) 1 1 w6 HRc.out (by unfold maxLen; omega) HRd.out (by unfold maxLen; omega))
      have HSM := Lib.hid (fun A4 c4 W (h1 : Reads W W.heap.size 6 A3 lt.length (nds lt)) (h2 : Reads W W.heap.size 6 A4 (buildF ⟨5, 0, 0, 0, 0, 0⟩ [q, [⟨3, 0, 0, 0, 0, 0⟩]]).length (nds (buildF ⟨5, 0, 0, 0, 0, 0⟩ [q, [⟨3, 0, 0, 0, 0, 0⟩]]))) => pSame_any lt (buildF ⟨5, 0, 0, 0, 0, 0⟩ [q, [⟨3, 0, 0, 0, 0, 0⟩]]) A3 A4 lt.length _ c3 c4 W h1 h2 (by unfold maxLen; omega) (by unfold maxLen; omega))
      rw [HJ3.out] at HSM
      generalize buildF ⟨5, 0, 0, 0, 0, 0⟩ [q, [⟨3, 0, 0, 0, 0, 0⟩]] = qq at *
      clear HJ hlA hlT HRc HRd hqn hqm h100 HJ3
      go_wp2_with fail
      refine (HC.out).mono ?_
      rintro e w7 ⟨A4, c4, rfl, hR4, hb⟩
      have HB7 := Lib.hid (HB6.out.trans (hb.mono (HG.out _ HB6.out).2.2.2))
      have HS7 := Lib.hid (HSM.out A4 c4 w7 ((HR3.out.below hb).more hb.size) hR4)
      clear hb hR4 HC HSM HR3 HB6
      go_wp2_with fail
      refine (HS7.out).mono ?_
      rintro e w8 ⟨rfl, hb⟩
      have HB8 := Lib.hid (HB7.out.trans (hb.mono (HG.out _ HB7.out).2.2.2))
      clear hb HS7 HB7
      go_wp2_with fail
      refine (awake_any _ (HG.out _ HB8.out).1).mono ?_
      rintro e v9 ⟨rfl, hb⟩
      have HB9 := Lib.hid (HB8.out.trans (hb.mono (HG.out _ HB8.out).2.2.2))
      clear hb
      go_wp2
      go_ret
      exact ⟨rfl, (HG.out _ HB9.out).2.2.1⟩
  · have hne : (ea != 0) = true := by rw [bne_iff_ne]; exact ha0
    clear HJ hlA hlT HR1 ha0 hT hTs HPT
    go_wp2_with fail
    refine (awake_any _ (HG.out _ HB2.out).1).mono ?_
    rintro e v9 ⟨rfl, hb⟩
    have HB9 := Lib.hid (HB2.out.trans (hb.mono (HG.out _ HB2.out).2.2.2))
    clear hb
    go_wp2
    go_ret
    exact ⟨rfl, (HG.out _ HB9.out).2.2.1⟩
set_option maxRecDepth 100000 in
set_option maxHeartbeats 8000000 in
theorem walk4 (a : ByteArray) (g : Nat) (w : World) (ha : a.size ≤ 200) (hg : g % 6 = 4) (hE : EnvS w) :
    Calls Tryd.prog 8 #[.string a, .int .u8 g] w fun e w' => e = .returned (.bool true) ∧ Below w.heap.size w w' := by
  have d1 : decide ((200 : Int) < (a.size : Int)) = false := decide_eq_false (by omega)
  have d2 : decide (200 < a.size) = false := decide_eq_false (by omega)
  have hr : (g : Int) % 6 = 4 := by omega
  have hN : UnN ⟨18, 0, 0, 0, 0, 0⟩ := ⟨by decide, ⟨by decide, by decide, by decide⟩, by decide, by decide, by decide, by decide⟩
  have HJ := Lib.hid (fun h1 h2 => prefix_parse (A := exA) (F := exF) (X := exX) (a := a) (sg := ⟨#[110, 101, 120, 116, 32]⟩) (u := [⟨#[110, 101, 120, 116]⟩]) (n := ⟨18, 0, 0, 0, 0, 0⟩) hN (pre1_plain exA exF exX (.inr (.inl ⟨rfl, rfl⟩))) (fun b v h => TokW.word (w := [110, 101, 120, 116]) ⟨_, _, rfl, by decide, by decide⟩ (brk_space (by decide)) (TokW.space (by decide) h)) ha (by decide) (by decide) h1 h2)
  have hTs : (preT ⟨#[110, 101, 120, 116, 32]⟩ a).size ≤ maxLen := by
    have e1 : (⟨#[40]⟩ : ByteArray).size = 1 := rfl
    have e2 : (⟨#[41, 32, 38, 32, 112]⟩ : ByteArray).size = 5 := rfl
    have e3 : (⟨#[110, 101, 120, 116, 32]⟩ : ByteArray).size ≤ 10 := by decide
    unfold preT maxLen
    simp only [ByteArray.size_append]
    omega
  have hlA := parseV_len exA exF exX a
  have hlT := parseV_len exA exF exX (preT ⟨#[110, 101, 120, 116, 32]⟩ a)
  have HPA := Lib.hid (fun v0 v1 v2 W hS hE => kParse_own (some ⟨v0, 0, none⟩) 2 2 (some ⟨v1, 0, none⟩) 3 3 (some ⟨v2, 0, none⟩) 1 1 exA exF exX a W hS hE (by unfold maxLen; omega))
  have HPT := Lib.hid (fun v0 v1 v2 W hS hE => kParse_own (some ⟨v0, 0, none⟩) 2 2 (some ⟨v1, 0, none⟩) 3 3 (some ⟨v2, 0, none⟩) 1 1 exA exF exX (preT ⟨#[110, 101, 120, 116, 32]⟩ a) W hS hE hTs)
  have hT : (⟨#[110, 101, 120, 116, 32]⟩ ++ ⟨#[40]⟩ ++ a ++ ⟨#[41, 32, 38, 32, 112]⟩ : ByteArray) = preT ⟨#[110, 101, 120, 116, 32]⟩ a := rfl
  generalize hPA : parseV exA exF exX a = PA at *
  generalize hPT : parseV exA exF exX (preT ⟨#[110, 101, 120, 116, 32]⟩ a) = PT at *
  clear hPA hPT
  obtain ⟨la, pa, ea⟩ := PA
  obtain ⟨lt, pt, et⟩ := PT
  dsimp only at HJ hlA hlT HPA HPT
  generalize preT ⟨#[110, 101, 120, 116, 32]⟩ a = T at *
  have HE : Hid (∀ W, Below w.heap.size w W → EnvS W) := Lib.hid (fun W h => hE.below h)
  clear hE
  go_enter Tryd.func8, Tryd.ntmps8
  go_wp2_with fail
  refine (kExample_any w).mono ?_
  rintro e w1 ⟨g0, g1, g2, rfl, hS, hb⟩
  have HX := Lib.hid (@boxed w1 (some ⟨g0, 0, none⟩) (some ⟨g1, 0, none⟩) (some ⟨g2, 0, none⟩) 2 2 3 3 1 1 31)
  have HG : Hid (∀ W, Below (w1.heap.size + 1) (w1.alloc (.cells #[.slice (some ⟨g0, 0, none⟩) 2 2, .slice (some ⟨g1, 0, none⟩) 3 3, .slice (some ⟨g2, 0, none⟩) 1 1] 31)) W → EnvS W ∧ SigR W W.heap.size (.agg #[.slice (some ⟨g0, 0, none⟩) 2 2, .slice (some ⟨g1, 0, none⟩) 3 3, .slice (some ⟨g2, 0, none⟩) 1 1]) exA exF exX ∧ Below w.heap.size w W ∧ w1.heap.size + 1 ≤ W.heap.size) := Lib.hid (fun W hW => by
    have h1 : Below w1.heap.size w1 W := ((Below.refl _ w1).alloc (Nat.le_refl _) _).trans (hW.mono (by omega))
    have h2 : Below w.heap.size w W := hb.trans (h1.mono hb.size)
    exact ⟨HE.out W h2, hS.on h1, h2, by have := hW.size; simpa using this⟩)
  have HB0 := Lib.hid (Below.refl (w1.heap.size + 1) (w1.alloc (.cells #[.slice (some ⟨g0, 0, none⟩) 2 2, .slice (some ⟨g1, 0, none⟩) 3 3, .slice (some ⟨g2, 0, none⟩) 1 1] 31)))
  clear hS hb HE
  obtain ⟨q0, q1, q2⟩ := HX.out _ HB0.out
  go_wp2_with fail
  refine (HPA.out _ _ _ _ (HG.out _ HB0.out).2.1 (HG.out _ HB0.out).1).mono ?_
  rintro e w2 ⟨A1, c1, rfl, hO, hb⟩
  have HR1 := Lib.hid (Reads.of_own hO)
  have HB2 := Lib.hid (HB0.out.trans (hb.mono (HG.out _ HB0.out).2.2.2))
  clear hO hb HPA q0 q1 q2 HB0
  by_cases ha0 : ea = 0
  · subst ha0
    by_cases h100 : 100 < la.length
    · have d5 : decide ((100 : Int) < (la.length : Int)) = true := decide_eq_true (by omega)
      have d6 : decide (100 < la.length) = true := decide_eq_true h100
      generalize la.length = La at *
      clear HJ hlA hlT HR1 h100 hT hTs HPT
      go_wp2_with fail
      refine (awake_any _ (HG.out _ HB2.out).1).mono ?_
      rintro e v9 ⟨rfl, hb⟩
      have HB9 := Lib.hid (HB2.out.trans (hb.mono (HG.out _ HB2.out).2.2.2))
      clear hb
      go_wp2
      go_ret
      exact ⟨rfl, (HG.out _ HB9.out).2.2.1⟩
    · have d5 : decide ((100 : Int) < (la.length : Int)) = false := decide_eq_false (by omega)
      have d6 : decide (100 < la.length) = false := decide_eq_false h100
      obtain ⟨j1, j2⟩ := HJ.out rfl (by show la.length ≤ 100; omega)
      have HJ2 := Lib.hid j2
      subst j1
      have HB3 : Hid (Below (w1.heap.size + 1) (w1.alloc (.cells #[.slice (some ⟨g0, 0, none⟩) 2 2, .slice (some ⟨g1, 0, none⟩) 3 3, .slice (some ⟨g2, 0, none⟩) 1 1] 31)) (w2.alloc (.cells #[.string ⟨#[126]⟩, .string ⟨#[75, 91, 98, 93]⟩, .string ⟨#[77, 91, 97, 93]⟩, .string ⟨#[83, 91, 97, 93]⟩, .string ⟨#[110, 101, 120, 116, 32]⟩, .string ⟨#[112, 114, 101, 118, 32]⟩] 9))) := Lib.hid (HB2.out.alloc (HG.out _ HB2.out).2.2.2 _)
      have HB4 : Hid (Below (w1.heap.size + 1) (w1.alloc (.cells #[.slice (some ⟨g0, 0, none⟩) 2 2, .slice (some ⟨g1, 0, none⟩) 3 3, .slice (some ⟨g2, 0, none⟩) 1 1] 31)) ((w2.alloc (.cells #[.string ⟨#[126]⟩, .string ⟨#[75, 91, 98, 93]⟩, .string ⟨#[77, 91, 97, 93]⟩, .string ⟨#[83, 91, 97, 93]⟩, .string ⟨#[110, 101, 120, 116, 32]⟩, .string ⟨#[112, 114, 101, 118, 32]⟩] 9)).alloc (.cells (nds [⟨3, 0, 0, 0, 0, 0⟩]).toArray 47))) := Lib.hid (HB3.out.alloc (HG.out _ HB3.out).2.2.2 _)
      have hb4 : Below w2.heap.size w2 ((w2.alloc (.cells #[.string ⟨#[126]⟩, .string ⟨#[75, 91, 98, 93]⟩, .string ⟨#[77, 91, 97, 93]⟩, .string ⟨#[83, 91, 97, 93]⟩, .string ⟨#[110, 101, 120, 116, 32]⟩, .string ⟨#[112, 114, 101, 118, 32]⟩] 9)).alloc (.cells (nds [⟨3, 0, 0, 0, 0, 0⟩]).toArray 47)) := ((Below.refl _ w2).alloc (Nat.le_refl _) _).alloc (by simp) _
      have HRp := Lib.hid (reads_nds' (w2.alloc (.cells #[.string ⟨#[126]⟩, .string ⟨#[75, 91, 98, 93]⟩, .string ⟨#[77, 91, 97, 93]⟩, .string ⟨#[83, 91, 97, 93]⟩, .string ⟨#[110, 101, 120, 116, 32]⟩, .string ⟨#[112, 114, 101, 118, 32]⟩] 9)) [⟨3, 0, 0, 0, 0, 0⟩] 47)
      have hsz : (w2.alloc (.cells #[.string ⟨#[126]⟩, .string ⟨#[75, 91, 98, 93]⟩, .string ⟨#[77, 91, 97, 93]⟩, .string ⟨#[83, 91, 97, 93]⟩, .string ⟨#[110, 101, 120, 116, 32]⟩, .string ⟨#[112, 114, 101, 118, 32]⟩] 9)).heap.size = w2.heap.size + 1 := by simp
      rw [hsz] at HRp
      have HRa := Lib.hid ((HR1.out.below hb4).more hb4.size)
      have hnd : (nds [⟨3, 0, 0, 0, 0, 0⟩]).toArray = #[.int .i64 3, .int .i64 0, .int .i64 0, .int .i64 0, .int .i64 0, .int .i64 0] := rfl
      rw [hnd] at HB4 HRp HRa
      clear hb4 hsz HR1 HB3 HB2 hnd j2
      go_wp2_with fail
      generalize (w2.alloc (.cells #[.string ⟨#[126]⟩, .string ⟨#[75, 91, 98, 93]⟩, .string ⟨#[77, 91, 97, 93]⟩, .string ⟨#[83, 91, 97, 93]⟩, .string ⟨#[110, 101, 120, 116, 32]⟩, .string ⟨#[112, 114, 101, 118, 32]⟩] 9)).alloc (.cells #[.int .i64 3, .int .i64 0, .int .i64 0, .int .i64 0, .int .i64 0, .int .i64 0] 47) = w4 at *
      refine (pNext_any la A1 la.length c1 w4 HRa.out (by unfold maxLen; omega)).mono ?_
      rintro e w5 ⟨A2, c2, rfl, hR2, hb⟩
      have HR2 := Lib.hid hR2
      have HRb := Lib.hid ((HRp.out.below hb).more hb.size)
      have HB5 := Lib.hid (HB4.out.trans (hb.mono (HG.out _ HB4.out).2.2.2))
      clear hR2 hb HB4 HRp HRa
      have hqn := buildF_len6 ⟨18, 0, 0, 0, 0, 0⟩ [la]
      have hqm := buildF_len6 ⟨5, 0, 0, 0, 0, 0⟩ [buildF ⟨18, 0, 0, 0, 0, 0⟩ [la], [⟨3, 0, 0, 0, 0, 0⟩]]
      have HJ3 : Hid (sameF lt (buildF ⟨5, 0, 0, 0, 0, 0⟩ [buildF ⟨18, 0, 0, 0, 0, 0⟩ [la], [⟨3, 0, 0, 0, 0, 0⟩]]) = true) := HJ2
      clear HJ2
      generalize buildF ⟨18, 0, 0, 0, 0, 0⟩ [la] = q at *
      obtain ⟨q0, q1, q2⟩ := HX.out _ HB5.out
      go_wp2_with fail
      refine (HPT.out _ _ _ w5 (HG.out _ HB5.out).2.1 (HG.out _ HB5.out).1).mono ?_
      rintro e w6 ⟨A3, c3, rfl, hO, hb⟩
      have HR3 := Lib.hid (Reads.of_own hO)
      have HB6 := Lib.hid (HB5.out.trans (hb.mono (HG.out _ HB5.out).2.2.2))
      have HRc := Lib.hid ((HR2.out.below hb).more hb.size)
      have HRd := Lib.hid ((HRb.out.below hb).more hb.size)
      clear hO hb HPT q0 q1 q2 HB5 HR2 HRb hT hTs
      have HC := Lib.hid (pAnd_any q A2 q.length c2 [⟨3, 0, 0, 0, 0, 0⟩] (some ⟨w2.heap.size + 1, 0, none⟩) 1 1 w6 HRc.out (by unfold maxLen; omega) HRd.out (by unfold maxLen; omega))
      have HSM := Lib.hid (fun A4 c4 W (h1 : Reads W W.heap.size 6 A3 lt.length (nds lt)) (h2 : Reads W W.heap.size 6 A4 (buildF ⟨5, 0, 0, 0, 0, 0⟩ [q, [⟨3, 0, 0, 0, 0, 0⟩]]).length (nds (buildF ⟨5, 0, 0, 0, 0, 0⟩ [q, [⟨3, 0, 0, 0, 0, 0⟩]]))) => pSame_any lt (buildF ⟨5, 0, 0, 0, 0, 0⟩ [q, [⟨3, 0, 0, 0, 0, 0⟩]]) A3 A4 lt.length _ c3 c4 W h1 h2 (by unfold maxLen; omega) (by unfold maxLen; omega))
      rw [HJ3.out] at HSM
      generalize buildF ⟨5, 0, 0, 0, 0, 0⟩ [q, [⟨3, 0, 0, 0, 0, 0⟩]] = qq at *
      clear HJ hlA hlT HRc HRd hqn hqm h100 HJ3
      go_wp2_with fail
      refine (HC.out).mono ?_
      rintro e w7 ⟨A4, c4, rfl, hR4, hb⟩
      have HB7 := Lib.hid (HB6.out.trans (hb.mono (HG.out _ HB6.out).2.2.2))
      have HS7 := Lib.hid (HSM.out A4 c4 w7 ((HR3.out.below hb).more hb.size) hR4)
      clear hb hR4 HC HSM HR3 HB6
      go_wp2_with fail
      refine (HS7.out).mono ?_
      rintro e w8 ⟨rfl, hb⟩
      have HB8 := Lib.hid (HB7.out.trans (hb.mono (HG.out _ HB7.out).2.2.2))
      clear hb HS7 HB7
      go_wp2_with fail
      refine (awake_any _ (HG.out _ HB8.out).1).mono ?_
      rintro e v9 ⟨rfl, hb⟩
      have HB9 := Lib.hid (HB8.out.trans (hb.mono (HG.out _ HB8.out).2.2.2))
      clear hb
      go_wp2
      go_ret
      exact ⟨rfl, (HG.out _ HB9.out).2.2.1⟩
  · have hne : (ea != 0) = true := by rw [bne_iff_ne]; exact ha0
    clear HJ hlA hlT HR1 ha0 hT hTs HPT
    go_wp2_with fail
    refine (awake_any _ (HG.out _ HB2.out).1).mono ?_
    rintro e v9 ⟨rfl, hb⟩
    have HB9 := Lib.hid (HB2.out.trans (hb.mono (HG.out _ HB2.out).2.2.2))
    clear hb
    go_wp2
    go_ret
    exact ⟨rfl, (HG.out _ HB9.out).2.2.1⟩
set_option maxRecDepth 100000 in
set_option maxHeartbeats 8000000 in
theorem walk5 (a : ByteArray) (g : Nat) (w : World) (ha : a.size ≤ 200) (hg : g % 6 = 5) (hE : EnvS w) :
    Calls Tryd.prog 8 #[.string a, .int .u8 g] w fun e w' => e = .returned (.bool true) ∧ Below w.heap.size w w' := by
  have d1 : decide ((200 : Int) < (a.size : Int)) = false := decide_eq_false (by omega)
  have d2 : decide (200 < a.size) = false := decide_eq_false (by omega)
  have hr : (g : Int) % 6 = 5 := by omega
  have hN : UnN ⟨20, 0, 0, 0, 0, 0⟩ := ⟨by decide, ⟨by decide, by decide, by decide⟩, by decide, by decide, by decide, by decide⟩
  have HJ := Lib.hid (fun h1 h2 => prefix_parse (A := exA) (F := exF) (X := exX) (a := a) (sg := ⟨#[112, 114, 101, 118, 32]⟩) (u := [⟨#[112, 114, 101, 118]⟩]) (n := ⟨20, 0, 0, 0, 0, 0⟩) hN (pre1_plain exA exF exX (.inr (.inr ⟨rfl, rfl⟩))) (fun b v h => TokW.word (w := [112, 114, 101, 118]) ⟨_, _, rfl, by decide, by decide⟩ (brk_space (by decide)) (TokW.space (by decide) h)) ha (by decide) (by decide) h1 h2)
  have hTs : (preT ⟨#[112, 114, 101, 118, 32]⟩ a).size ≤ maxLen := by
    have e1 : (⟨#[40]⟩ : ByteArray).size = 1 := rfl
    have e2 : (⟨#[41, 32, 38, 32, 112]⟩ : ByteArray).size = 5 := rfl
    have e3 : (⟨#[112, 114, 101, 118, 32]⟩ : ByteArray).size ≤ 10 := by decide
    unfold preT maxLen
    simp only [ByteArray.size_append]
    omega
  have hlA := parseV_len exA exF exX a
  have hlT := parseV_len exA exF exX (preT ⟨#[112, 114, 101, 118, 32]⟩ a)
  have HPA := Lib.hid (fun v0 v1 v2 W hS hE => kParse_own (some ⟨v0, 0, none⟩) 2 2 (some ⟨v1, 0, none⟩) 3 3 (some ⟨v2, 0, none⟩) 1 1 exA exF exX a W hS hE (by unfold maxLen; omega))
  have HPT := Lib.hid (fun v0 v1 v2 W hS hE => kParse_own (some ⟨v0, 0, none⟩) 2 2 (some ⟨v1, 0, none⟩) 3 3 (some ⟨v2, 0, none⟩) 1 1 exA exF exX (preT ⟨#[112, 114, 101, 118, 32]⟩ a) W hS hE hTs)
  have hT : (⟨#[112, 114, 101, 118, 32]⟩ ++ ⟨#[40]⟩ ++ a ++ ⟨#[41, 32, 38, 32, 112]⟩ : ByteArray) = preT ⟨#[112, 114, 101, 118, 32]⟩ a := rfl
  generalize hPA : parseV exA exF exX a = PA at *
  generalize hPT : parseV exA exF exX (preT ⟨#[112, 114, 101, 118, 32]⟩ a) = PT at *
  clear hPA hPT
  obtain ⟨la, pa, ea⟩ := PA
  obtain ⟨lt, pt, et⟩ := PT
  dsimp only at HJ hlA hlT HPA HPT
  generalize preT ⟨#[112, 114, 101, 118, 32]⟩ a = T at *
  have HE : Hid (∀ W, Below w.heap.size w W → EnvS W) := Lib.hid (fun W h => hE.below h)
  clear hE
  go_enter Tryd.func8, Tryd.ntmps8
  go_wp2_with fail
  refine (kExample_any w).mono ?_
  rintro e w1 ⟨g0, g1, g2, rfl, hS, hb⟩
  have HX := Lib.hid (@boxed w1 (some ⟨g0, 0, none⟩) (some ⟨g1, 0, none⟩) (some ⟨g2, 0, none⟩) 2 2 3 3 1 1 31)
  have HG : Hid (∀ W, Below (w1.heap.size + 1) (w1.alloc (.cells #[.slice (some ⟨g0, 0, none⟩) 2 2, .slice (some ⟨g1, 0, none⟩) 3 3, .slice (some ⟨g2, 0, none⟩) 1 1] 31)) W → EnvS W ∧ SigR W W.heap.size (.agg #[.slice (some ⟨g0, 0, none⟩) 2 2, .slice (some ⟨g1, 0, none⟩) 3 3, .slice (some ⟨g2, 0, none⟩) 1 1]) exA exF exX ∧ Below w.heap.size w W ∧ w1.heap.size + 1 ≤ W.heap.size) := Lib.hid (fun W hW => by
    have h1 : Below w1.heap.size w1 W := ((Below.refl _ w1).alloc (Nat.le_refl _) _).trans (hW.mono (by omega))
    have h2 : Below w.heap.size w W := hb.trans (h1.mono hb.size)
    exact ⟨HE.out W h2, hS.on h1, h2, by have := hW.size; simpa using this⟩)
  have HB0 := Lib.hid (Below.refl (w1.heap.size + 1) (w1.alloc (.cells #[.slice (some ⟨g0, 0, none⟩) 2 2, .slice (some ⟨g1, 0, none⟩) 3 3, .slice (some ⟨g2, 0, none⟩) 1 1] 31)))
  clear hS hb HE
  obtain ⟨q0, q1, q2⟩ := HX.out _ HB0.out
  go_wp2_with fail
  refine (HPA.out _ _ _ _ (HG.out _ HB0.out).2.1 (HG.out _ HB0.out).1).mono ?_
  rintro e w2 ⟨A1, c1, rfl, hO, hb⟩
  have HR1 := Lib.hid (Reads.of_own hO)
  have HB2 := Lib.hid (HB0.out.trans (hb.mono (HG.out _ HB0.out).2.2.2))
  clear hO hb HPA q0 q1 q2 HB0
  by_cases ha0 : ea = 0
  · subst ha0
    by_cases h100 : 100 < la.length
    · have d5 : decide ((100 : Int) < (la.length : Int)) = true := decide_eq_true (by omega)
      have d6 : decide (100 < la.length) = true := decide_eq_true h100
      generalize la.length = La at *
      clear HJ hlA hlT HR1 h100 hT hTs HPT
      go_wp2_with fail
      refine (awake_any _ (HG.out _ HB2.out).1).mono ?_
      rintro e v9 ⟨rfl, hb⟩
      have HB9 := Lib.hid (HB2.out.trans (hb.mono (HG.out _ HB2.out).2.2.2))
      clear hb
      go_wp2
      go_ret
      exact ⟨rfl, (HG.out _ HB9.out).2.2.1⟩
    · have d5 : decide ((100 : Int) < (la.length : Int)) = false := decide_eq_false (by omega)
      have d6 : decide (100 < la.length) = false := decide_eq_false h100
      obtain ⟨j1, j2⟩ := HJ.out rfl (by show la.length ≤ 100; omega)
      have HJ2 := Lib.hid j2
      subst j1
      have HB3 : Hid (Below (w1.heap.size + 1) (w1.alloc (.cells #[.slice (some ⟨g0, 0, none⟩) 2 2, .slice (some ⟨g1, 0, none⟩) 3 3, .slice (some ⟨g2, 0, none⟩) 1 1] 31)) (w2.alloc (.cells #[.string ⟨#[126]⟩, .string ⟨#[75, 91, 98, 93]⟩, .string ⟨#[77, 91, 97, 93]⟩, .string ⟨#[83, 91, 97, 93]⟩, .string ⟨#[110, 101, 120, 116, 32]⟩, .string ⟨#[112, 114, 101, 118, 32]⟩] 9))) := Lib.hid (HB2.out.alloc (HG.out _ HB2.out).2.2.2 _)
      have HB4 : Hid (Below (w1.heap.size + 1) (w1.alloc (.cells #[.slice (some ⟨g0, 0, none⟩) 2 2, .slice (some ⟨g1, 0, none⟩) 3 3, .slice (some ⟨g2, 0, none⟩) 1 1] 31)) ((w2.alloc (.cells #[.string ⟨#[126]⟩, .string ⟨#[75, 91, 98, 93]⟩, .string ⟨#[77, 91, 97, 93]⟩, .string ⟨#[83, 91, 97, 93]⟩, .string ⟨#[110, 101, 120, 116, 32]⟩, .string ⟨#[112, 114, 101, 118, 32]⟩] 9)).alloc (.cells (nds [⟨3, 0, 0, 0, 0, 0⟩]).toArray 47))) := Lib.hid (HB3.out.alloc (HG.out _ HB3.out).2.2.2 _)
      have hb4 : Below w2.heap.size w2 ((w2.alloc (.cells #[.string ⟨#[126]⟩, .string ⟨#[75, 91, 98, 93]⟩, .string ⟨#[77, 91, 97, 93]⟩, .string ⟨#[83, 91, 97, 93]⟩, .string ⟨#[110, 101, 120, 116, 32]⟩, .string ⟨#[112, 114, 101, 118, 32]⟩] 9)).alloc (.cells (nds [⟨3, 0, 0, 0, 0, 0⟩]).toArray 47)) := ((Below.refl _ w2).alloc (Nat.le_refl _) _).alloc (by simp) _
      have HRp := Lib.hid (reads_nds' (w2.alloc (.cells #[.string ⟨#[126]⟩, .string ⟨#[75, 91, 98, 93]⟩, .string ⟨#[77, 91, 97, 93]⟩, .string ⟨#[83, 91, 97, 93]⟩, .string ⟨#[110, 101, 120, 116, 32]⟩, .string ⟨#[112, 114, 101, 118, 32]⟩] 9)) [⟨3, 0, 0, 0, 0, 0⟩] 47)
      have hsz : (w2.alloc (.cells #[.string ⟨#[126]⟩, .string ⟨#[75, 91, 98, 93]⟩, .string ⟨#[77, 91, 97, 93]⟩, .string ⟨#[83, 91, 97, 93]⟩, .string ⟨#[110, 101, 120, 116, 32]⟩, .string ⟨#[112, 114, 101, 118, 32]⟩] 9)).heap.size = w2.heap.size + 1 := by simp
      rw [hsz] at HRp
      have HRa := Lib.hid ((HR1.out.below hb4).more hb4.size)
      have hnd : (nds [⟨3, 0, 0, 0, 0, 0⟩]).toArray = #[.int .i64 3, .int .i64 0, .int .i64 0, .int .i64 0, .int .i64 0, .int .i64 0] := rfl
      rw [hnd] at HB4 HRp HRa
      clear hb4 hsz HR1 HB3 HB2 hnd j2
      go_wp2_with fail
      generalize (w2.alloc (.cells #[.string ⟨#[126]⟩, .string ⟨#[75, 91, 98, 93]⟩, .string ⟨#[77, 91, 97, 93]⟩, .string ⟨#[83, 91, 97, 93]⟩, .string ⟨#[110, 101, 120, 116, 32]⟩, .string ⟨#[112, 114, 101, 118, 32]⟩] 9)).alloc (.cells #[.int .i64 3, .int .i64 0, .int .i64 0, .int .i64 0, .int .i64 0, .int .i64 0] 47) = w4 at *
      refine (pPrev_any la A1 la.length c1 w4 HRa.out (by unfold maxLen; omega)).mono ?_
      rintro e w5 ⟨A2, c2, rfl, hR2, hb⟩
      have HR2 := Lib.hid hR2
      have HRb := Lib.hid ((HRp.out.below hb).more hb.size)
      have HB5 := Lib.hid (HB4.out.trans (hb.mono (HG.out _ HB4.out).2.2.2))
      clear hR2 hb HB4 HRp HRa
      have hqn := buildF_len6 ⟨20, 0, 0, 0, 0, 0⟩ [la]
      have hqm := buildF_len6 ⟨5, 0, 0, 0, 0, 0⟩ [buildF ⟨20, 0, 0, 0, 0, 0⟩ [la], [⟨3, 0, 0, 0, 0, 0⟩]]
      have HJ3 : Hid (sameF lt (buildF ⟨5, 0, 0, 0, 0, 0⟩ [buildF ⟨20, 0, 0, 0, 0, 0⟩ [la], [⟨3, 0, 0, 0, 0, 0⟩]]) = true) := HJ2
      clear HJ2
      generalize buildF ⟨20, 0, 0, 0, 0, 0⟩ [la] = q at *
      obtain ⟨q0, q1, q2⟩ := HX.out _ HB5.out
      go_wp2_with fail
      refine (HPT.out _ _ _ w5 (HG.out _ HB5.out).2.1 (HG.out _ HB5.out).1).mono ?_
      rintro e w6 ⟨A3, c3, rfl, hO, hb⟩
      have HR3 := Lib.hid (Reads.of_own hO)
      have HB6 := Lib.hid (HB5.out.trans (hb.mono (HG.out _ HB5.out).2.2.2))
      have HRc := Lib.hid ((HR2.out.below hb).more hb.size)
      have HRd := Lib.hid ((HRb.out.below hb).more hb.size)
      clear hO hb HPT q0 q1 q2 HB5 HR2 HRb hT hTs
      have HC := Lib.hid (pAnd_any q A2 q.length c2 [⟨3, 0, 0, 0, 0, 0⟩] (some ⟨w2.heap.size + 1, 0, none⟩) 1 1 w6 HRc.out (by unfold maxLen; omega) HRd.out (by unfold maxLen; omega))
      have HSM := Lib.hid (fun A4 c4 W (h1 : Reads W W.heap.size 6 A3 lt.length (nds lt)) (h2 : Reads W W.heap.size 6 A4 (buildF ⟨5, 0, 0, 0, 0, 0⟩ [q, [⟨3, 0, 0, 0, 0, 0⟩]]).length (nds (buildF ⟨5, 0, 0, 0, 0, 0⟩ [q, [⟨3, 0, 0, 0, 0, 0⟩]]))) => pSame_any lt (buildF ⟨5, 0, 0, 0, 0, 0⟩ [q, [⟨3, 0, 0, 0, 0, 0⟩]]) A3 A4 lt.length _ c3 c4 W h1 h2 (by unfold maxLen; omega) (by unfold maxLen; omega))
      rw [HJ3.out] at HSM
      generalize buildF ⟨5, 0, 0, 0, 0, 0⟩ [q, [⟨3, 0, 0, 0, 0, 0⟩]] = qq at *
      clear HJ hlA hlT HRc HRd hqn hqm h100 HJ3
      go_wp2_with fail
      refine (HC.out).mono ?_
      rintro e w7 ⟨A4, c4, rfl, hR4, hb⟩
      have HB7 := Lib.hid (HB6.out.trans (hb.mono (HG.out _ HB6.out).2.2.2))
      have HS7 := Lib.hid (HSM.out A4 c4 w7 ((HR3.out.below hb).more hb.size) hR4)
      clear hb hR4 HC HSM HR3 HB6
      go_wp2_with fail
      refine (HS7.out).mono ?_
      rintro e w8 ⟨rfl, hb⟩
      have HB8 := Lib.hid (HB7.out.trans (hb.mono (HG.out _ HB7.out).2.2.2))
      clear hb HS7 HB7
      go_wp2_with fail
      refine (awake_any _ (HG.out _ HB8.out).1).mono ?_
      rintro e v9 ⟨rfl, hb⟩
      have HB9 := Lib.hid (HB8.out.trans (hb.mono (HG.out _ HB8.out).2.2.2))
      clear hb
      go_wp2
      go_ret
      exact ⟨rfl, (HG.out _ HB9.out).2.2.1⟩
  · have hne : (ea != 0) = true := by rw [bne_iff_ne]; exact ha0
    clear HJ hlA hlT HR1 ha0 hT hTs HPT
    go_wp2_with fail
    refine (awake_any _ (HG.out _ HB2.out).1).mono ?_
    rintro e v9 ⟨rfl, hb⟩
    have HB9 := Lib.hid (HB2.out.trans (hb.mono (HG.out _ HB2.out).2.2.2))
    clear hb
    go_wp2
    go_ret
    exact ⟨rfl, (HG.out _ HB9.out).2.2.1⟩
theorem walk (a : ByteArray) (g : Nat) (w : World) (ha : a.size ≤ maxLen) (hE : EnvS w) :
    Calls Tryd.prog 8 #[.string a, .int .u8 g] w fun e w' => e = .returned (.bool true) ∧ Below w.heap.size w w' := by
  by_cases h : 200 < a.size
  · exact walk_long a g w h ha hE
  · have h1 : a.size ≤ 200 := by omega
    have h6 : g % 6 < 6 := Nat.mod_lt _ (by decide)
    match hk : g % 6, h6 with
    | 0, _ => exact walk0 a g w h1 hk hE
    | 1, _ => exact walk1 a g w h1 hk hE
    | 2, _ => exact walk2 a g w h1 hk hE
    | 3, _ => exact walk3 a g w h1 hk hE
    | 4, _ => exact walk4 a g w h1 hk hE
    | 5, _ => exact walk5 a g w h1 hk hE
    | n + 6, h => omega
set_option maxRecDepth 100000 in
theorem contract (H : Type) (enc : TypeId × Value → H) (W : World) (base : Nat) (args : Array Value) (ds gs : List (DataW H)) (before : List MemPlace)
    (hval : ∀ (j : Nat) t v, Tryd.f8.params[j]? = some t → args[j]? = some v → Value.okWide Tryd.prog W .any base t v)
    (hW : DataW.Whole enc Tryd.prog Tryd.f8.params.toList Rows.parserPrefixesSpec.vars false W args.toList ds gs before) (hE : EnvS W) :
    Calls Tryd.prog 8 args W fun e W' => ∃ v, e = .returned v ∧ Rows.parserPrefixesSpec.post enc Tryd.prog Tryd.f8 false true false false W args v W' := by
  have hW' := hW
  obtain ⟨p, q, hA0, hV, rfl, hfz, hnd⟩ := hW
  have hA : DataW.TrodAll enc Tryd.prog W 0 (fun _ => true) true Tryd.f8.params.toList args.toList ds p := hA0
  rw [Tryd.params8] at hA hval
  obtain ⟨v0, vs0, d0, ds0, p0, q0, hargs, rfl, rfl, h0, r0⟩ := trodAll_cons hA
  obtain ⟨v1, vs1, d1, ds1, p1, q1, rfl, rfl, rfl, h1, r1⟩ := trodAll_cons r0
  obtain ⟨rfl, rfl, rfl⟩ := trodAll_nil r1
  obtain rfl : args = #[v0, v1] := by cases args; simp_all
  obtain ⟨rfl, rfl⟩ := trodVars_none hV
  obtain ⟨t0, rfl, rfl, rfl, w0⟩ := open_string Tryd.underlying9 (hval 0 9 v0 rfl rfl) h0
  obtain ⟨g1, rfl, rfl, rfl, w1⟩ := open_int Tryd.underlying5 (hval 1 5 v1 rfl rfl) h1
  obtain ⟨g1, rfl, hu1⟩ : ∃ n : Nat, g1 = (n : Int) ∧ n < 256 := by have hz := w1; have q1 : IntKind.u8.min = 0 := rfl; have q2 : IntKind.u8.max = 255 := rfl; simp [Lit.wf] at hz; exact ⟨g1.toNat, by omega, by omega⟩
  clear hA0
  simp only [List.append_nil] at hW'
  have hwalk := walk t0 g1 W w0 hE
  refine hwalk.mono fun e W' ⟨he, hg⟩ => ?_
  subst he
  exact ⟨_, rfl, _, _, _, [], _, [], hW', trodAll_mk1 (shut_bool Tryd.underlying4 _), (trodAll_cons_mk (shut_string Tryd.underlying9 w0) (trodAll_cons_mk (shut_int Tryd.underlying5 w1) trodAll_mk0)), rfl, hg.frame _, fun h => by cases h⟩
theorem reads (os : Os) {H : Type} (enc : TypeId × Value → H) : ∃ places, DataW.whole enc Tryd.prog ((laidW os).forCall (fun _ _ => 0) ⟨#[], #[.string ⟨#[]⟩, .int .u8 0], []⟩).memory Tryd.f8.params.toList Rows.parserPrefixesSpec.vars false #[(.string ⟨#[]⟩ : Value), (.int .u8 0 : Value)].toList 8 = some ([.lit (.string []), .lit (.int .u8 0)], [], places) :=
  ⟨[], by kernel_rfl⟩
set_option maxRecDepth 100000 in
theorem lifted (os : Os) (started : os.Started) (H : Type) (enc : TypeId × Value → H) (F : Stop.Interp) :
    ReturnsInHanded {} Tryd.checked os 8 .any ((OpenSpec.ofChange Rows.parserPrefixesSpec).preRow enc Tryd.prog Tryd.f8 Rows.parserPrefixesRow.domain false Rows.parserPrefixesRow.laid) (((OpenSpec.ofChange Rows.parserPrefixesSpec).at F).post enc Tryd.prog Tryd.f8 false true false false) := by
  obtain ⟨places, hx⟩ := reads os enc
  refine returnsInHanded_of_row (C := Tryd.checked) (s := OpenSpec.ofChange Rows.parserPrefixesSpec) own started (by kernel_rfl) Tryd.func8
    (witness_row_atRef (enc := enc) (C := Tryd.checked) false (laidW os) #[.string ⟨#[]⟩, .int .u8 0] (laidW_os os) (vars_ok os _) (heap_ok os _) (by kernel_rfl)
      (OpenSpec.preRow_of_cond 8 hx (by kernel_rfl) (fun k hk => by cases hk) (by kernel_rfl) (laid_met os _))) ?_
  intro W base args ds gs before hval hW _ _ _ hL hsh _
  exact contract H enc W base args ds gs before hval hW (env_of hL hsh)
theorem said : Rows.ParserPrefixesSaid :=
  OpenClaim.holds_of_cond 8 Tryd.f8 rfl rfl rfl rfl rfl rfl rfl ⟨rfl, rfl, rfl, rfl, rfl⟩ rfl rfl rfl rfl rfl (by kernel_rfl) Tryd.func8 (by kernel_rfl)
    (of_decide_eq_true (by kernel_rfl)) (by unfold Func.isWrapper; first | (rw [if_pos (by decide +kernel)]; kernel_rfl) | (rw [if_neg (by decide +kernel)]; exact ⟨rfl, rfl⟩))
    (fun os started H enc _ F => by rw [OpenClaim.pre_eq_preRow]; exact lifted os started H enc F)
theorem plain (f : FuncId) (fn : Func) (hf : Tryd.pinned.checked.prog.funcNamed "witting/wittinglaw06.ParserPrefixes" = some f) (hfn : Tryd.pinned.checked.prog.funcs[f]? = some fn) :
    false = Tryd.pinned.checked.prog.looks [] ∧ ∀ (j : Nat) t, fn.params[j]? = some t → Tryd.pinned.checked.prog.wantsStandIn t = false := by
  obtain rfl : f = 8 := Option.some.inj ((show Tryd.prog.funcNamed "witting/wittinglaw06.ParserPrefixes" = some 8 by kernel_rfl).symm.trans hf) |>.symm
  obtain rfl : fn = Tryd.f8 := (Option.some.inj (Tryd.func8.symm.trans hfn)).symm
  refine ⟨no_looks, fun j t ht => ?_⟩
  rw [Tryd.params8] at ht
  have hm : t ∈ [9, 5] := by simpa using Array.mem_of_getElem? ht
  have hall : ([9, 5].all fun u => !Tryd.prog.wantsStandIn u) = true := by kernel_rfl
  exact (show Tryd.prog.wantsStandIn t = false by simpa using List.all_eq_true.1 hall t hm)
theorem card : Rows.ParserPrefixesCardSaid :=
  Claim7.holds_tied_plain_at .later [] _ _ _ _ said (fun _ h => by cases h) (by kernel_rfl) (fun _ h => by cases h) parserPrefixes_row_tie rfl ⟨rfl, rfl⟩ (by kernel_rfl) rfl plain (by kernel_rfl)
#print axioms card
end Go.Proofs.YthhkeobjjeldhaaDoor.parserPrefixes
