/- Layer 4: awake. -/
import Derived.Test.YtichhbnpdhfimaaDoorSr
namespace Go.Proofs.YtichhbnpdhfimaaDoor
open Go.RowKit Go.Proofs.Ws
set_option maxRecDepth 100000 in
set_option maxHeartbeats 4000000 in
theorem awakeS_any (w : World) (hE : EnvS w) : Calls Tryd.prog 25 #[] w fun e w' => e = .returned (.bool true) ∧ Below w.heap.size w w' := by
  have HE := Lib.hid hE
  have H0 := Lib.hid (aw_default w hE)
  clear hE
  go_enter Tryd.func25, Tryd.ntmps25
  go_wp2_with fail
  refine (H0.out).mono ?_
  rintro e w1 ⟨a0, n0, c0, a1, n1, c1, a2, n2, c2, rfl, hS, hb⟩
  have HS1 := Lib.hid hS
  have HB1 := Lib.hid hb
  unfold sv at HS1 ⊢
  clear hS hb H0
  have HX := Lib.hid (@boxed w1 a0 a1 a2 n0 c0 n1 c1 n2 c2 39)
  have HG : Hid (∀ W, Below (w1.heap.size + 1) (w1.alloc (.cells #[.slice a0 n0 c0, .slice a1 n1 c1, .slice a2 n2 c2] 39)) W → EnvS W ∧ SigR W W.heap.size (.agg #[.slice a0 n0 c0, .slice a1 n1 c1, .slice a2 n2 c2]) A3 F2 X1 ∧ Below w.heap.size w W ∧ w1.heap.size + 1 ≤ W.heap.size) := Lib.hid (fun W hW => by
    have h1 : Below w1.heap.size w1 W := ((Below.refl _ w1).alloc (Nat.le_refl _) _).trans (hW.mono (by omega))
    have h2 : Below w.heap.size w W := HB1.out.trans (h1.mono HB1.out.size)
    exact ⟨HE.out.below h2, HS1.out.on h1, h2, by have := hW.size; simpa using this⟩)
  clear HS1
  go_wp2_with fail
  have hR2 : Reads ((w1.alloc (.cells #[.slice a0 n0 c0, .slice a1 n1 c1, .slice a2 n2 c2] 39)).alloc (.cells #[.string ⟨#[99]⟩, .string ⟨#[97]⟩] 9)) ((w1.alloc (.cells #[.slice a0 n0 c0, .slice a1 n1 c1, .slice a2 n2 c2] 39)).alloc (.cells #[.string ⟨#[99]⟩, .string ⟨#[97]⟩] 9)).heap.size 1 (some ⟨(w1.alloc (.cells #[.slice a0 n0 c0, .slice a1 n1 c1, .slice a2 n2 c2] 39)).heap.size, 0, none⟩) 2 (ss [⟨#[99]⟩, ⟨#[97]⟩]) := row_reads (heap_alloc_new (w1.alloc (.cells #[.slice a0 n0 c0, .slice a1 n1 c1, .slice a2 n2 c2] 39)) _) rfl
  have hb2 : Below (w1.heap.size + 1) (w1.alloc (.cells #[.slice a0 n0 c0, .slice a1 n1 c1, .slice a2 n2 c2] 39)) ((w1.alloc (.cells #[.slice a0 n0 c0, .slice a1 n1 c1, .slice a2 n2 c2] 39)).alloc (.cells #[.string ⟨#[99]⟩, .string ⟨#[97]⟩] 9)) := (Below.refl _ _).alloc (by simp) _
  rw [show (w1.alloc (.cells #[.slice a0 n0 c0, .slice a1 n1 c1, .slice a2 n2 c2] 39)).heap.size = w1.heap.size + 1 by simp] at hR2
  refine (aw_group _ _ _ _ (HG.out _ hb2).2.1 (HG.out _ hb2).1 hR2).mono ?_
  rintro e w2 ⟨rfl, hb⟩
  have HB : Hid (Below (w1.heap.size + 1) (w1.alloc (.cells #[.slice a0 n0 c0, .slice a1 n1 c1, .slice a2 n2 c2] 39)) w2) := Lib.hid (hb2.trans (hb.mono (by simp)))
  clear hb hb2 hR2
  have hc := HX.out w2 HB.out
  obtain ⟨hc0, hc1, hc2⟩ := hc
  go_wp2_with fail
  refine (aw_text _ _ (HG.out _ HB.out).2.1 (HG.out _ HB.out).1).mono ?_
  rintro e w3 ⟨rfl, hb⟩
  have HB2 : Hid (Below (w1.heap.size + 1) (w1.alloc (.cells #[.slice a0 n0 c0, .slice a1 n1 c1, .slice a2 n2 c2] 39)) w3) := Lib.hid (HB.out.trans (hb.mono (HG.out _ HB.out).2.2.2))
  clear hb HB hc0 hc1 hc2
  have HB := HB2
  clear HB2
  have hc := HX.out w3 HB.out
  obtain ⟨hc0, hc1, hc2⟩ := hc
  go_wp2_with fail
  refine (aw_parse1 _ _ (HG.out _ HB.out).2.1 (HG.out _ HB.out).1).mono ?_
  rintro e w4 ⟨rfl, hb⟩
  have HB2 : Hid (Below (w1.heap.size + 1) (w1.alloc (.cells #[.slice a0 n0 c0, .slice a1 n1 c1, .slice a2 n2 c2] 39)) w4) := Lib.hid (HB.out.trans (hb.mono (HG.out _ HB.out).2.2.2))
  clear hb HB hc0 hc1 hc2
  have HB := HB2
  clear HB2
  have hc := HX.out w4 HB.out
  obtain ⟨hc0, hc1, hc2⟩ := hc
  go_wp2_with fail
  refine (aw_parse2 _ _ (HG.out _ HB.out).2.1 (HG.out _ HB.out).1).mono ?_
  rintro e w5 ⟨rfl, hb⟩
  have HB2 : Hid (Below (w1.heap.size + 1) (w1.alloc (.cells #[.slice a0 n0 c0, .slice a1 n1 c1, .slice a2 n2 c2] 39)) w5) := Lib.hid (HB.out.trans (hb.mono (HG.out _ HB.out).2.2.2))
  clear hb HB hc0 hc1 hc2
  have HB := HB2
  clear HB2
  have hc := HX.out w5 HB.out
  obtain ⟨hc0, hc1, hc2⟩ := hc
  go_wp2_with fail
  refine (aw_parse3 _ _ (HG.out _ HB.out).2.1 (HG.out _ HB.out).1).mono ?_
  rintro e w6 ⟨rfl, hb⟩
  have HB2 : Hid (Below (w1.heap.size + 1) (w1.alloc (.cells #[.slice a0 n0 c0, .slice a1 n1 c1, .slice a2 n2 c2] 39)) w6) := Lib.hid (HB.out.trans (hb.mono (HG.out _ HB.out).2.2.2))
  clear hb HB hc0 hc1 hc2
  have HB := HB2
  clear HB2
  have hc := HX.out w6 HB.out
  obtain ⟨hc0, hc1, hc2⟩ := hc
  go_wp2_with fail
  refine (aw_parse4 _ _ (HG.out _ HB.out).2.1 (HG.out _ HB.out).1).mono ?_
  rintro e w7 ⟨rfl, hb⟩
  have HB2 : Hid (Below (w1.heap.size + 1) (w1.alloc (.cells #[.slice a0 n0 c0, .slice a1 n1 c1, .slice a2 n2 c2] 39)) w7) := Lib.hid (HB.out.trans (hb.mono (HG.out _ HB.out).2.2.2))
  clear hb HB hc0 hc1 hc2
  have HB := HB2
  clear HB2
  have hc := HX.out w7 HB.out
  obtain ⟨hc0, hc1, hc2⟩ := hc
  go_wp2_with fail
  refine (aw_agent _ _ (HG.out _ HB.out).2.1 (HG.out _ HB.out).1).mono ?_
  rintro e w8 ⟨rfl, hb⟩
  have HB2 : Hid (Below (w1.heap.size + 1) (w1.alloc (.cells #[.slice a0 n0 c0, .slice a1 n1 c1, .slice a2 n2 c2] 39)) w8) := Lib.hid (HB.out.trans (hb.mono (HG.out _ HB.out).2.2.2))
  clear hb HB hc0 hc1 hc2
  have HB := HB2
  clear HB2
  have hc := HX.out w8 HB.out
  obtain ⟨hc0, hc1, hc2⟩ := hc
  go_wp2_with fail
  refine (aw_fact1 _ _ (HG.out _ HB.out).2.1 (HG.out _ HB.out).1).mono ?_
  rintro e w9 ⟨rfl, hb⟩
  have HB2 : Hid (Below (w1.heap.size + 1) (w1.alloc (.cells #[.slice a0 n0 c0, .slice a1 n1 c1, .slice a2 n2 c2] 39)) w9) := Lib.hid (HB.out.trans (hb.mono (HG.out _ HB.out).2.2.2))
  clear hb HB hc0 hc1 hc2
  have HB := HB2
  clear HB2
  have hc := HX.out w9 HB.out
  obtain ⟨hc0, hc1, hc2⟩ := hc
  go_wp2_with fail
  refine (aw_fact2 _ _ (HG.out _ HB.out).2.1 (HG.out _ HB.out).1).mono ?_
  rintro e w10 ⟨rfl, hb⟩
  have HB2 : Hid (Below (w1.heap.size + 1) (w1.alloc (.cells #[.slice a0 n0 c0, .slice a1 n1 c1, .slice a2 n2 c2] 39)) w10) := Lib.hid (HB.out.trans (hb.mono (HG.out _ HB.out).2.2.2))
  clear hb HB hc0 hc1 hc2
  have HB := HB2
  clear HB2
  have hc := HX.out w10 HB.out
  obtain ⟨hc0, hc1, hc2⟩ := hc
  go_wp2_with fail
  refine (aw_action _ _ (HG.out _ HB.out).2.1 (HG.out _ HB.out).1).mono ?_
  rintro e w11 ⟨rfl, hb⟩
  have HB2 : Hid (Below (w1.heap.size + 1) (w1.alloc (.cells #[.slice a0 n0 c0, .slice a1 n1 c1, .slice a2 n2 c2] 39)) w11) := Lib.hid (HB.out.trans (hb.mono (HG.out _ HB.out).2.2.2))
  clear hb HB hc0 hc1 hc2
  have HB := HB2
  clear HB2
  have hc := HX.out w11 HB.out
  obtain ⟨hc0, hc1, hc2⟩ := hc
  go_wp2_with fail
  have hb2 : Below (w1.heap.size + 1) (w1.alloc (.cells #[.slice a0 n0 c0, .slice a1 n1 c1, .slice a2 n2 c2] 39)) ((w11.alloc (.cells #[.string ⟨#[97]⟩] 9)).alloc (.cells #[.string ⟨#[97]⟩] 9)) := HB.out.trans (Below.mono (((Below.refl w11.heap.size w11).alloc (Nat.le_refl _) _).alloc (by simp) _) (HG.out _ HB.out).2.2.2)
  refine (aw_check1 w11 9 (HG.out _ hb2).1).mono ?_
  rintro e w12 ⟨rfl, hb⟩
  have HB2 : Hid (Below (w1.heap.size + 1) (w1.alloc (.cells #[.slice a0 n0 c0, .slice a1 n1 c1, .slice a2 n2 c2] 39)) w12) := Lib.hid (HB.out.trans (hb.mono (HG.out _ HB.out).2.2.2))
  clear hb hb2 HB hc0 hc1 hc2
  have HB := HB2
  clear HB2
  have hc := HX.out w12 HB.out
  obtain ⟨hc0, hc1, hc2⟩ := hc
  go_wp2_with fail
  have hb2 : Below (w1.heap.size + 1) (w1.alloc (.cells #[.slice a0 n0 c0, .slice a1 n1 c1, .slice a2 n2 c2] 39)) (w12.alloc (.cells #[.string ⟨#[50, 97]⟩] 9)) := HB.out.trans (Below.mono ((Below.refl w12.heap.size w12).alloc (Nat.le_refl _) _) (HG.out _ HB.out).2.2.2)
  refine (aw_check2 w12 9 (HG.out _ hb2).1).mono ?_
  rintro e w13 ⟨rfl, hb⟩
  have HB2 : Hid (Below (w1.heap.size + 1) (w1.alloc (.cells #[.slice a0 n0 c0, .slice a1 n1 c1, .slice a2 n2 c2] 39)) w13) := Lib.hid (HB.out.trans (hb.mono (HG.out _ HB.out).2.2.2))
  clear hb hb2 HB hc0 hc1 hc2
  have HB := HB2
  clear HB2
  have hc := HX.out w13 HB.out
  obtain ⟨hc0, hc1, hc2⟩ := hc
  go_wp2_with fail
  have hb2 : Below (w1.heap.size + 1) (w1.alloc (.cells #[.slice a0 n0 c0, .slice a1 n1 c1, .slice a2 n2 c2] 39)) (w13.alloc (.cells #[.string ⟨#[100, 111]⟩] 9)) := HB.out.trans (Below.mono ((Below.refl w13.heap.size w13).alloc (Nat.le_refl _) _) (HG.out _ HB.out).2.2.2)
  refine (aw_check3 w13 9 (HG.out _ hb2).1).mono ?_
  rintro e w14 ⟨rfl, hb⟩
  have HB2 : Hid (Below (w1.heap.size + 1) (w1.alloc (.cells #[.slice a0 n0 c0, .slice a1 n1 c1, .slice a2 n2 c2] 39)) w14) := Lib.hid (HB.out.trans (hb.mono (HG.out _ HB.out).2.2.2))
  clear hb hb2 HB hc0 hc1 hc2
  have HB := HB2
  clear HB2
  have hc := HX.out w14 HB.out
  obtain ⟨hc0, hc1, hc2⟩ := hc
  go_wp2_with fail
  refine (aw_reserved _ (HG.out _ HB.out).1).mono ?_
  rintro e w15 ⟨rfl, rfl⟩
  go_wp2_with fail
  refine (aw_name _).mono ?_
  rintro e w16 ⟨rfl, rfl⟩
  go_wp2
  go_ret
  exact ⟨rfl, (HG.out _ HB.out).2.2.1⟩
end Go.Proofs.YtichhbnpdhfimaaDoor
