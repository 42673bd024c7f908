/- Layer 2: awake returns true. -/
import Derived.Test.YtogjbghieoifjaaDoorRz
namespace Go.Proofs.YtogjbghieoifjaaDoor
open Go.RowKit Go.Proofs.Ws
set_option maxRecDepth 100000 in
set_option maxHeartbeats 4000000 in
theorem awake_any (w : World) (hT : Tab w) : Calls Tryd.prog 12 #[] w fun e w' => e = .returned (.bool true) ∧ Below w.heap.size w w' := by
  obtain ⟨w0, hw0⟩ : ∃ w0, w.alloc (.cells #[.int .u64 2, .int .u64 4, .int .u64 0] 34) = w0 := ⟨_, rfl⟩
  have HB : Hid (Below w.heap.size w w0) := Lib.hid (by rw [← hw0]; exact (Below.refl _ w).alloc (Nat.le_refl _) _)
  have HR : Hid (Reads w0 w0.heap.size 1 (some ⟨w.heap.size, 0, none⟩) 3 (us rr)) := Lib.hid (by rw [← hw0]; exact (HoldsU.made w rr).reads)
  have HT : Hid (Tab w0) := Lib.hid (hT.below HB.out)
  clear hT
  go_enter Tryd.func12, Tryd.ntmps12
  have HX := Lib.hid (ex_compose _ 3 w0 HR.out HT.out)
  go_wp2_with fail
  try simp only [hw0]
  clear hw0
  refine (HX.out).mono ?_
  rintro e w1 ⟨A1, c1, rfl, hr, hb⟩
  clear HX
  replace HR := Lib.hid (HR.out.step hb)
  replace HB := Lib.hid (HB.out.trans (hb.mono HB.out.size))
  replace HT := Lib.hid (HT.out.below hb)
  have H1 := Lib.hid hr
  clear hr
  clear hb
  have HX := Lib.hid (ex_converse _ 3 w1 HR.out HT.out)
  go_wp2_with fail
  refine (HX.out).mono ?_
  rintro e w2 ⟨A2, c2, rfl, hr, hb⟩
  clear HX
  replace HR := Lib.hid (HR.out.step hb)
  replace H1 := Lib.hid (H1.out.step hb)
  replace HB := Lib.hid (HB.out.trans (hb.mono HB.out.size))
  replace HT := Lib.hid (HT.out.below hb)
  have H2 := Lib.hid hr
  clear hr
  clear hb
  have HX := Lib.hid (ex_transitive _ 3 w2 HR.out HT.out)
  go_wp2_with fail
  refine (HX.out).mono ?_
  rintro e w3 ⟨A3, c3, rfl, hr, hb⟩
  clear HX
  replace HR := Lib.hid (HR.out.step hb)
  replace H1 := Lib.hid (H1.out.step hb)
  replace H2 := Lib.hid (H2.out.step hb)
  replace HB := Lib.hid (HB.out.trans (hb.mono HB.out.size))
  replace HT := Lib.hid (HT.out.below hb)
  have H3 := Lib.hid hr
  clear hr
  clear hb
  have HX := Lib.hid (ex_euclidean _ 3 w3 HR.out HT.out)
  go_wp2_with fail
  refine (HX.out).mono ?_
  rintro e w4 ⟨A4, c4, rfl, hr, hb⟩
  clear HX
  replace HR := Lib.hid (HR.out.step hb)
  replace H1 := Lib.hid (H1.out.step hb)
  replace H2 := Lib.hid (H2.out.step hb)
  replace H3 := Lib.hid (H3.out.step hb)
  replace HB := Lib.hid (HB.out.trans (hb.mono HB.out.size))
  replace HT := Lib.hid (HT.out.below hb)
  have H4 := Lib.hid hr
  clear hr
  clear hb
  have HX := Lib.hid (ex_symmetric _ 3 w4 HR.out HT.out)
  go_wp2_with fail
  refine (HX.out).mono ?_
  rintro e w5 ⟨A5, c5, rfl, hr, hb⟩
  clear HX
  replace HR := Lib.hid (HR.out.step hb)
  replace H1 := Lib.hid (H1.out.step hb)
  replace H2 := Lib.hid (H2.out.step hb)
  replace H3 := Lib.hid (H3.out.step hb)
  replace H4 := Lib.hid (H4.out.step hb)
  replace HB := Lib.hid (HB.out.trans (hb.mono HB.out.size))
  replace HT := Lib.hid (HT.out.below hb)
  have H5 := Lib.hid hr
  clear hr
  clear hb
  have HX := Lib.hid (ex_path _ 3 w5 HR.out HT.out)
  go_wp2_with fail
  refine (HX.out).mono ?_
  rintro e w6 ⟨A6, c6, rfl, hr, hb⟩
  clear HX
  replace HR := Lib.hid (HR.out.step hb)
  replace H1 := Lib.hid (H1.out.step hb)
  replace H2 := Lib.hid (H2.out.step hb)
  replace H3 := Lib.hid (H3.out.step hb)
  replace H4 := Lib.hid (H4.out.step hb)
  replace H5 := Lib.hid (H5.out.step hb)
  replace HB := Lib.hid (HB.out.trans (hb.mono HB.out.size))
  replace HT := Lib.hid (HT.out.below hb)
  have H6 := Lib.hid hr
  clear hr
  clear hb
  obtain ⟨ad, u0, rfl, _, hu0, hp0⟩ := H6.out.at_ (show 0 < 3 by omega)
  obtain ⟨_, u1, hA, _, hu1, hp1⟩ := H6.out.at_ (show 1 < 3 by omega)
  cases hA
  obtain ⟨_, u2, hA, _, hu2, hp2⟩ := H6.out.at_ (show 2 < 3 by omega)
  cases hA
  obtain rfl : u0 = .int .i64 0 := by simp [iv] at hu0; exact hu0.symm
  obtain rfl : u1 = .int .i64 1 := by simp [iv] at hu1; exact hu1.symm
  obtain rfl : u2 = .int .i64 2 := by simp [iv] at hu2; exact hu2.symm
  have hp0' : w6.cell? ad = some (.int .i64 0) := by have := hp0; unfold Addr.add at this; rw [if_pos rfl] at this; exact this
  have hq1 : w6.cell? ⟨ad.block, ad.off + 1, none⟩ = some (.int .i64 1) := by
    have := hp1
    unfold Addr.add at this
    rw [if_neg (by omega)] at this
    exact this
  have hq2 : w6.cell? ⟨ad.block, ad.off + 2, none⟩ = some (.int .i64 2) := by
    have := hp2
    unfold Addr.add at this
    rw [if_neg (by omega)] at this
    exact this
  clear hu0 hu1 hu2
  have HX := Lib.hid (ex_path0 _ 3 w6 HR.out HT.out)
  go_wp2_with fail
  refine (HX.out).mono ?_
  rintro e w7 ⟨A7, c7, rfl, _, hb⟩
  clear HX
  replace HR := Lib.hid (HR.out.step hb)
  replace H1 := Lib.hid (H1.out.step hb)
  replace H2 := Lib.hid (H2.out.step hb)
  replace H3 := Lib.hid (H3.out.step hb)
  replace H4 := Lib.hid (H4.out.step hb)
  replace H5 := Lib.hid (H5.out.step hb)
  replace HB := Lib.hid (HB.out.trans (hb.mono HB.out.size))
  replace HT := Lib.hid (HT.out.below hb)
  clear hb
  have HX := Lib.hid (is_any 4 0 0 _ c1 w7 H1.out)
  go_wp2_with fail
  refine (HX.out).mono ?_
  rintro e w8 ⟨rfl, hb⟩
  clear HX
  replace HR := Lib.hid (HR.out.step hb)
  replace H1 := Lib.hid (H1.out.step hb)
  replace H2 := Lib.hid (H2.out.step hb)
  replace H3 := Lib.hid (H3.out.step hb)
  replace H4 := Lib.hid (H4.out.step hb)
  replace H5 := Lib.hid (H5.out.step hb)
  replace HB := Lib.hid (HB.out.trans (hb.mono HB.out.size))
  replace HT := Lib.hid (HT.out.below hb)
  clear hb
  have HX := Lib.hid (is_any 0 1 2 _ c2 w8 H2.out)
  go_wp2_with fail
  refine (HX.out).mono ?_
  rintro e w9 ⟨rfl, hb⟩
  clear HX
  replace HR := Lib.hid (HR.out.step hb)
  replace H2 := Lib.hid (H2.out.step hb)
  replace H3 := Lib.hid (H3.out.step hb)
  replace H4 := Lib.hid (H4.out.step hb)
  replace H5 := Lib.hid (H5.out.step hb)
  replace HB := Lib.hid (HB.out.trans (hb.mono HB.out.size))
  replace HT := Lib.hid (HT.out.below hb)
  clear hb
  have HX := Lib.hid (is_any 6 4 0 _ c3 w9 H3.out)
  go_wp2_with fail
  refine (HX.out).mono ?_
  rintro e w10 ⟨rfl, hb⟩
  clear HX
  replace HR := Lib.hid (HR.out.step hb)
  replace H3 := Lib.hid (H3.out.step hb)
  replace H4 := Lib.hid (H4.out.step hb)
  replace H5 := Lib.hid (H5.out.step hb)
  replace HB := Lib.hid (HB.out.trans (hb.mono HB.out.size))
  replace HT := Lib.hid (HT.out.below hb)
  clear hb
  have HX := Lib.hid (is_any 2 6 6 _ c4 w10 H4.out)
  go_wp2_with fail
  refine (HX.out).mono ?_
  rintro e w11 ⟨rfl, hb⟩
  clear HX
  replace HR := Lib.hid (HR.out.step hb)
  replace H3 := Lib.hid (H3.out.step hb)
  replace H4 := Lib.hid (H4.out.step hb)
  replace H5 := Lib.hid (H5.out.step hb)
  replace HB := Lib.hid (HB.out.trans (hb.mono HB.out.size))
  replace HT := Lib.hid (HT.out.below hb)
  clear hb
  have HX := Lib.hid (is_any 2 5 2 _ c5 w11 H5.out)
  go_wp2_with fail
  refine (HX.out).mono ?_
  rintro e w12 ⟨rfl, hb⟩
  clear HX
  replace HR := Lib.hid (HR.out.step hb)
  replace H3 := Lib.hid (H3.out.step hb)
  replace H5 := Lib.hid (H5.out.step hb)
  replace HB := Lib.hid (HB.out.trans (hb.mono HB.out.size))
  replace HT := Lib.hid (HT.out.below hb)
  clear hb
  have HX := Lib.hid (ex_box _ 3 w12 HR.out)
  go_wp2_with fail
  refine (HX.out).mono ?_
  rintro e w13 ⟨rfl, hb⟩
  clear HX
  replace HR := Lib.hid (HR.out.step hb)
  replace H3 := Lib.hid (H3.out.step hb)
  replace HB := Lib.hid (HB.out.trans (hb.mono HB.out.size))
  replace HT := Lib.hid (HT.out.below hb)
  clear hb
  have HX := Lib.hid (ex_dia _ 3 w13 HR.out)
  go_wp2_with fail
  refine (HX.out).mono ?_
  rintro e w14 ⟨rfl, hb⟩
  clear HX
  replace HR := Lib.hid (HR.out.step hb)
  replace H3 := Lib.hid (H3.out.step hb)
  replace HB := Lib.hid (HB.out.trans (hb.mono HB.out.size))
  replace HT := Lib.hid (HT.out.below hb)
  clear hb
  have HX := Lib.hid (ex_reach _ 3 w14 HR.out HT.out)
  go_wp2_with fail
  refine (HX.out).mono ?_
  rintro e w15 ⟨rfl, hb⟩
  clear HX
  replace HR := Lib.hid (HR.out.step hb)
  replace H3 := Lib.hid (H3.out.step hb)
  replace HB := Lib.hid (HB.out.trans (hb.mono HB.out.size))
  replace HT := Lib.hid (HT.out.below hb)
  clear hb
  have HX := Lib.hid (ex_check _ 3 w15 HR.out)
  go_wp2_with fail
  refine (HX.out).mono ?_
  rintro e w0 ⟨rfl, rfl⟩
  clear HX
  have HX := Lib.hid (ex_check1 w15)
  have hb : Below w15.heap.size w15 (w15.alloc (.cells #[.int .u64 2] 34)) := (Below.refl _ _).alloc (Nat.le_refl _) _
  replace H3 := Lib.hid (H3.out.step hb)
  replace HB := Lib.hid (HB.out.trans (hb.mono HB.out.size))
  replace HT := Lib.hid (HT.out.below hb)
  clear hb
  go_wp2_with fail
  refine (HX.out).mono ?_
  rintro e w0 ⟨rfl, rfl⟩
  clear HX
  have HX := Lib.hid (ex_has _ c3 _ H3.out HT.out)
  go_wp2_with fail
  refine (HX.out).mono ?_
  rintro e w1 ⟨rfl, hb⟩
  replace HB := Lib.hid (HB.out.trans (hb.mono HB.out.size))
  clear hb HX
  go_wp2
  go_ret
  exact ⟨rfl, HB.out⟩
end Go.Proofs.YtogjbghieoifjaaDoor
