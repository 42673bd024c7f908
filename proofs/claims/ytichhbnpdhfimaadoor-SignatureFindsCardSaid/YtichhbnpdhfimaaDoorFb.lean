/- Layer 4: the usual names, by the reference. -/
import Derived.Test.YtichhbnpdhfimaaDoorFa
namespace Go.Proofs.YtichhbnpdhfimaaDoor
open Go.RowKit Go.Proofs.Ws
def Dr (w W : World) (v0 v1 v2 : Value) : Prop :=
  W.heap[w.heap.size]? = some (.cells #[.slice none 0 0, .slice none 0 0, .slice none 0 0] 39 (0, 0)) ∧ W.heap[w.heap.size + 1]? = some (.cells #[v0, v1, v2] 39 (0, 0)) ∧ w.heap.size + 2 ≤ W.heap.size ∧ Below w.heap.size w W
section
variable {w W W' : World} {v0 v1 v2 u : Value}
theorem Dr.on (h : Dr w W v0 v1 v2) (hb : Below (w.heap.size + 2) W W') : Dr w W' v0 v1 v2 :=
  ⟨(hb.block _ (by omega)).trans h.1, (hb.block _ (by omega)).trans h.2.1, Nat.le_trans h.2.2.1 hb.size, h.2.2.2.trans (hb.mono (by omega))⟩
theorem Dr.cells (h : Dr w W v0 v1 v2) : W.cell? ⟨w.heap.size + 1, 0, none⟩ = some v0 ∧ W.cell? ⟨w.heap.size + 1, 1, none⟩ = some v1 ∧ W.cell? ⟨w.heap.size + 1, 2, none⟩ = some v2 := by
  refine ⟨?_, ?_, ?_⟩ <;> (rw [Lib.cell_of_heap h.2.1]; rfl)
theorem Dr.free (h : Dr w W v0 v1 v2) (j : Nat) : W.frozen? ⟨w.heap.size + 1, j, none⟩ = false := Lib.frozen_of_heap h.2.1 j
theorem Dr.set0 (h : Dr w W v0 v1 v2) : Dr w (W.setCell ⟨w.heap.size + 1, 0, none⟩ u) u v1 v2 :=
  ⟨(Below.heap_setCell _ ⟨w.heap.size + 1, 0, none⟩ u _ (by simp)).trans h.1, by simp [World.setCell, Array.getElem?_modify, h.2.1], by simpa [World.setCell] using h.2.2.1, h.2.2.2.setCell (p := ⟨w.heap.size + 1, 0, none⟩) (by simp) _⟩
theorem Dr.set1 (h : Dr w W v0 v1 v2) : Dr w (W.setCell ⟨w.heap.size + 1, 1, none⟩ u) v0 u v2 :=
  ⟨(Below.heap_setCell _ ⟨w.heap.size + 1, 1, none⟩ u _ (by simp)).trans h.1, by simp [World.setCell, Array.getElem?_modify, h.2.1], by simpa [World.setCell] using h.2.2.1, h.2.2.2.setCell (p := ⟨w.heap.size + 1, 1, none⟩) (by simp) _⟩
theorem Dr.set2 (h : Dr w W v0 v1 v2) : Dr w (W.setCell ⟨w.heap.size + 1, 2, none⟩ u) v0 v1 u :=
  ⟨(Below.heap_setCell _ ⟨w.heap.size + 1, 2, none⟩ u _ (by simp)).trans h.1, by simp [World.setCell, Array.getElem?_modify, h.2.1], by simpa [World.setCell] using h.2.2.1, h.2.2.2.setCell (p := ⟨w.heap.size + 1, 2, none⟩) (by simp) _⟩
end
theorem own_set {w W : World} {j : Nat} {e : TypeId} {v u : Value} {n : Nat} {xs : List Value} (h : W.ownsRow (w.heap.size + 2) e 1 v n xs) : (W.setCell ⟨w.heap.size + 1, j, none⟩ u).ownsRow (w.heap.size + 2) e 1 v n xs :=
  own_keep h (fun g hg _ => Below.heap_setCell _ ⟨w.heap.size + 1, j, none⟩ u g (by intro e; simp at e; omega))
theorem own_on {W W' : World} {lo : Nat} {e : TypeId} {v : Value} {n : Nat} {xs : List Value} (h : W.ownsRow lo e 1 v n xs) (hb : Below W.heap.size W W') : W'.ownsRow lo e 1 v n xs :=
  own_keep h (fun g _ hg => hb.block g hg)
theorem own_lo {W : World} {lo lo' : Nat} {e : TypeId} {v : Value} {n : Nat} {xs : List Value} (h : W.ownsRow lo' e 1 v n xs) (hl : lo ≤ lo') : W.ownsRow lo e 1 v n xs := by
  refine ⟨h.1, ?_⟩
  rcases h.2 with hn | ⟨g, cap, cur, hv, hb, rest⟩
  · exact .inl hn
  · exact .inr ⟨g, cap, cur, hv, by omega, rest⟩
set_option maxRecDepth 100000 in
set_option maxHeartbeats 4000000 in
theorem pRefDefault_ok (n0 n1 n2 : Nat) (w : World) (h0 : n0 ≤ 4) (h1 : n1 ≤ 8) (h2 : n2 ≤ 8) :
    Calls Tryd.prog 34 #[.int .i64 n0, .int .i64 n1, .int .i64 n2] w fun e w' => ∃ v, e = .returned (.tuple #[v, .int .i64 0]) ∧ SigR w' w'.heap.size v (agW.take n0) (faW.take n1) (acW.take n2) ∧ Below w.heap.size w w' := by
  have d0 : decide ((n0 : Int) < 0) = false := by simp
  have d1 : decide ((4 : Int) < (n0 : Int)) = false := by simp; omega
  have d2 : decide ((n1 : Int) < 0) = false := by simp
  have d3 : decide ((8 : Int) < (n1 : Int)) = false := by simp; omega
  have d4 : decide ((n2 : Int) < 0) = false := by simp
  have d5 : decide ((8 : Int) < (n2 : Int)) = false := by simp; omega
  have HF0 := Lib.hid (fun W A c hR => pFirst_any agW A 4 c n0 W hR h0 (by omega))
  have HF1 := Lib.hid (fun W A c hR => pFirst_any faW A 8 c n1 W hR h1 (by omega))
  have HF2 := Lib.hid (fun W A c hR => pFirst_any acW A 8 c n2 W hR h2 (by omega))
  go_enter Tryd.func34, Tryd.ntmps34
  go_upto_region 4 with fail
  have HD0 : Hid (Dr w ((w.alloc (.cells #[.slice none 0 0, .slice none 0 0, .slice none 0 0] 39)).alloc (.cells #[.slice none 0 0, .slice none 0 0, .slice none 0 0] 39)) (.slice none 0 0) (.slice none 0 0) (.slice none 0 0)) := Lib.hid ⟨by
      have := heap_alloc_new w (.cells #[.slice none 0 0, .slice none 0 0, .slice none 0 0] 39)
      exact (Below.heap_alloc _ _ _ (by simp)).trans this, by
      have := heap_alloc_new (w.alloc (.cells #[.slice none 0 0, .slice none 0 0, .slice none 0 0] 39)) (.cells #[.slice none 0 0, .slice none 0 0, .slice none 0 0] 39)
      simpa using this, by simp, ((Below.refl _ w).alloc (Nat.le_refl _) _).alloc (by simp) _⟩
  generalize ((w.alloc (.cells #[.slice none 0 0, .slice none 0 0, .slice none 0 0] 39)).alloc (.cells #[.slice none 0 0, .slice none 0 0, .slice none 0 0] 39)) = W0 at *
  clear d0 d1 d2 d3 d4 d5
  have hsz0 := HD0.out.2.2.1
  have hR0 : Reads (W0.alloc (.cells #[.string ⟨#[97]⟩, .string ⟨#[98]⟩, .string ⟨#[99]⟩, .string ⟨#[100]⟩] 9)) (W0.alloc (.cells #[.string ⟨#[97]⟩, .string ⟨#[98]⟩, .string ⟨#[99]⟩, .string ⟨#[100]⟩] 9)).heap.size 1 (some ⟨W0.heap.size, 0, none⟩) 4 (ss agW) := by
    have := row_reads (l := agW) (n := 4) (heap_alloc_new W0 (.cells #[.string ⟨#[97]⟩, .string ⟨#[98]⟩, .string ⟨#[99]⟩, .string ⟨#[100]⟩] 9)) rfl
    simpa using this
  have hbA0 : Below (w.heap.size + 2) W0 (W0.alloc (.cells #[.string ⟨#[97]⟩, .string ⟨#[98]⟩, .string ⟨#[99]⟩, .string ⟨#[100]⟩] 9)) := (Below.refl _ _).alloc hsz0 _
  have HDA0 := Lib.hid (HD0.out.on hbA0)
  go_wp2_with fail
  refine (HF0.out _ _ _ hR0).mono ?_
  rintro e W1 ⟨vv0, rfl, ho0, hb0⟩
  obtain ⟨A0, C0, rfl, u0, y0, z0, _⟩ := own_reads2 ho0
  have HE0 := Lib.hid (HDA0.out.on (hb0.mono HDA0.out.2.2.1))
  have HO0 : Hid (W1.ownsRow (w.heap.size + 2) 9 1 (.slice A0 n0 C0) n0 (ss (agW.take n0))) := Lib.hid (own_lo ho0 HDA0.out.2.2.1)
  clear hR0 hbA0 HDA0 ho0 hb0 hsz0
  have hx0 := HE0.out.cells.1
  have hf0 := HE0.out.free 0
  have HS0 := Lib.hid (HE0.out.set0 (u := (.slice A0 n0 C0)))
  have HP0_0 : Hid ((W1.setCell ⟨w.heap.size + 1, 0, none⟩ (.slice A0 n0 C0)).ownsRow (w.heap.size + 2) 9 1 (.slice A0 n0 C0) n0 (ss (agW.take n0))) := Lib.hid (own_set HO0.out)
  go_upto_region 5 with fail
  clear hx0 hf0
  have hsz1 := HS0.out.2.2.1
  have hR1 : Reads ((W1.setCell ⟨w.heap.size + 1, 0, none⟩ (.slice A0 n0 C0)).alloc (.cells #[.string ⟨#[112]⟩, .string ⟨#[113]⟩, .string ⟨#[114]⟩, .string ⟨#[115]⟩, .string ⟨#[116]⟩, .string ⟨#[117]⟩, .string ⟨#[118]⟩, .string ⟨#[119]⟩] 9)) ((W1.setCell ⟨w.heap.size + 1, 0, none⟩ (.slice A0 n0 C0)).alloc (.cells #[.string ⟨#[112]⟩, .string ⟨#[113]⟩, .string ⟨#[114]⟩, .string ⟨#[115]⟩, .string ⟨#[116]⟩, .string ⟨#[117]⟩, .string ⟨#[118]⟩, .string ⟨#[119]⟩] 9)).heap.size 1 (some ⟨W1.heap.size, 0, none⟩) 8 (ss faW) := by
    have := row_reads (l := faW) (n := 8) (heap_alloc_new (W1.setCell ⟨w.heap.size + 1, 0, none⟩ (.slice A0 n0 C0)) (.cells #[.string ⟨#[112]⟩, .string ⟨#[113]⟩, .string ⟨#[114]⟩, .string ⟨#[115]⟩, .string ⟨#[116]⟩, .string ⟨#[117]⟩, .string ⟨#[118]⟩, .string ⟨#[119]⟩] 9)) rfl
    simpa using this
  have hbA1 : Below (w.heap.size + 2) (W1.setCell ⟨w.heap.size + 1, 0, none⟩ (.slice A0 n0 C0)) ((W1.setCell ⟨w.heap.size + 1, 0, none⟩ (.slice A0 n0 C0)).alloc (.cells #[.string ⟨#[112]⟩, .string ⟨#[113]⟩, .string ⟨#[114]⟩, .string ⟨#[115]⟩, .string ⟨#[116]⟩, .string ⟨#[117]⟩, .string ⟨#[118]⟩, .string ⟨#[119]⟩] 9)) := (Below.refl _ _).alloc hsz1 _
  have HDA1 := Lib.hid (HS0.out.on hbA1)
  go_wp2_with fail
  refine (HF1.out _ _ _ hR1).mono ?_
  rintro e W2 ⟨vv1, rfl, ho1, hb1⟩
  obtain ⟨A1, C1, rfl, u1, y1, z1, _⟩ := own_reads2 ho1
  have HE1 := Lib.hid (HDA1.out.on (hb1.mono HDA1.out.2.2.1))
  have HO1 : Hid (W2.ownsRow (w.heap.size + 2) 9 1 (.slice A1 n1 C1) n1 (ss (faW.take n1))) := Lib.hid (own_lo ho1 HDA1.out.2.2.1)
  have HO0_1 : Hid (W2.ownsRow (w.heap.size + 2) 9 1 (.slice A0 n0 C0) n0 (ss (agW.take n0))) := Lib.hid (own_on (own_on HP0_0.out ((Below.refl _ _).alloc (Nat.le_refl _) (.cells #[.string ⟨#[112]⟩, .string ⟨#[113]⟩, .string ⟨#[114]⟩, .string ⟨#[115]⟩, .string ⟨#[116]⟩, .string ⟨#[117]⟩, .string ⟨#[118]⟩, .string ⟨#[119]⟩] 9))) hb1)
  clear hR1 hbA1 HDA1 ho1 hb1 hsz1
  have hx1 := HE1.out.cells.2.1
  have hf1 := HE1.out.free 1
  have HS1 := Lib.hid (HE1.out.set1 (u := (.slice A1 n1 C1)))
  have HP0_1 : Hid ((W2.setCell ⟨w.heap.size + 1, 1, none⟩ (.slice A1 n1 C1)).ownsRow (w.heap.size + 2) 9 1 (.slice A0 n0 C0) n0 (ss (agW.take n0))) := Lib.hid (own_set HO0_1.out)
  have HP1_1 : Hid ((W2.setCell ⟨w.heap.size + 1, 1, none⟩ (.slice A1 n1 C1)).ownsRow (w.heap.size + 2) 9 1 (.slice A1 n1 C1) n1 (ss (faW.take n1))) := Lib.hid (own_set HO1.out)
  go_upto_region 6 with fail
  clear hx1 hf1
  have hsz2 := HS1.out.2.2.1
  have hR2 : Reads ((W2.setCell ⟨w.heap.size + 1, 1, none⟩ (.slice A1 n1 C1)).alloc (.cells #[.string ⟨#[97, 99, 116, 48]⟩, .string ⟨#[97, 99, 116, 49]⟩, .string ⟨#[97, 99, 116, 50]⟩, .string ⟨#[97, 99, 116, 51]⟩, .string ⟨#[97, 99, 116, 52]⟩, .string ⟨#[97, 99, 116, 53]⟩, .string ⟨#[97, 99, 116, 54]⟩, .string ⟨#[97, 99, 116, 55]⟩] 9)) ((W2.setCell ⟨w.heap.size + 1, 1, none⟩ (.slice A1 n1 C1)).alloc (.cells #[.string ⟨#[97, 99, 116, 48]⟩, .string ⟨#[97, 99, 116, 49]⟩, .string ⟨#[97, 99, 116, 50]⟩, .string ⟨#[97, 99, 116, 51]⟩, .string ⟨#[97, 99, 116, 52]⟩, .string ⟨#[97, 99, 116, 53]⟩, .string ⟨#[97, 99, 116, 54]⟩, .string ⟨#[97, 99, 116, 55]⟩] 9)).heap.size 1 (some ⟨W2.heap.size, 0, none⟩) 8 (ss acW) := by
    have := row_reads (l := acW) (n := 8) (heap_alloc_new (W2.setCell ⟨w.heap.size + 1, 1, none⟩ (.slice A1 n1 C1)) (.cells #[.string ⟨#[97, 99, 116, 48]⟩, .string ⟨#[97, 99, 116, 49]⟩, .string ⟨#[97, 99, 116, 50]⟩, .string ⟨#[97, 99, 116, 51]⟩, .string ⟨#[97, 99, 116, 52]⟩, .string ⟨#[97, 99, 116, 53]⟩, .string ⟨#[97, 99, 116, 54]⟩, .string ⟨#[97, 99, 116, 55]⟩] 9)) rfl
    simpa using this
  have hbA2 : Below (w.heap.size + 2) (W2.setCell ⟨w.heap.size + 1, 1, none⟩ (.slice A1 n1 C1)) ((W2.setCell ⟨w.heap.size + 1, 1, none⟩ (.slice A1 n1 C1)).alloc (.cells #[.string ⟨#[97, 99, 116, 48]⟩, .string ⟨#[97, 99, 116, 49]⟩, .string ⟨#[97, 99, 116, 50]⟩, .string ⟨#[97, 99, 116, 51]⟩, .string ⟨#[97, 99, 116, 52]⟩, .string ⟨#[97, 99, 116, 53]⟩, .string ⟨#[97, 99, 116, 54]⟩, .string ⟨#[97, 99, 116, 55]⟩] 9)) := (Below.refl _ _).alloc hsz2 _
  have HDA2 := Lib.hid (HS1.out.on hbA2)
  go_wp2_with fail
  refine (HF2.out _ _ _ hR2).mono ?_
  rintro e W3 ⟨vv2, rfl, ho2, hb2⟩
  obtain ⟨A2, C2, rfl, u2, y2, z2, _⟩ := own_reads2 ho2
  have HE2 := Lib.hid (HDA2.out.on (hb2.mono HDA2.out.2.2.1))
  have HO2 : Hid (W3.ownsRow (w.heap.size + 2) 9 1 (.slice A2 n2 C2) n2 (ss (acW.take n2))) := Lib.hid (own_lo ho2 HDA2.out.2.2.1)
  have HO0_2 : Hid (W3.ownsRow (w.heap.size + 2) 9 1 (.slice A0 n0 C0) n0 (ss (agW.take n0))) := Lib.hid (own_on (own_on HP0_1.out ((Below.refl _ _).alloc (Nat.le_refl _) (.cells #[.string ⟨#[97, 99, 116, 48]⟩, .string ⟨#[97, 99, 116, 49]⟩, .string ⟨#[97, 99, 116, 50]⟩, .string ⟨#[97, 99, 116, 51]⟩, .string ⟨#[97, 99, 116, 52]⟩, .string ⟨#[97, 99, 116, 53]⟩, .string ⟨#[97, 99, 116, 54]⟩, .string ⟨#[97, 99, 116, 55]⟩] 9))) hb2)
  have HO1_2 : Hid (W3.ownsRow (w.heap.size + 2) 9 1 (.slice A1 n1 C1) n1 (ss (faW.take n1))) := Lib.hid (own_on (own_on HP1_1.out ((Below.refl _ _).alloc (Nat.le_refl _) (.cells #[.string ⟨#[97, 99, 116, 48]⟩, .string ⟨#[97, 99, 116, 49]⟩, .string ⟨#[97, 99, 116, 50]⟩, .string ⟨#[97, 99, 116, 51]⟩, .string ⟨#[97, 99, 116, 52]⟩, .string ⟨#[97, 99, 116, 53]⟩, .string ⟨#[97, 99, 116, 54]⟩, .string ⟨#[97, 99, 116, 55]⟩] 9))) hb2)
  clear hR2 hbA2 HDA2 ho2 hb2 hsz2
  have hx2 := HE2.out.cells.2.2
  have hf2 := HE2.out.free 2
  have HS2 := Lib.hid (HE2.out.set2 (u := (.slice A2 n2 C2)))
  have HP0_2 : Hid ((W3.setCell ⟨w.heap.size + 1, 2, none⟩ (.slice A2 n2 C2)).ownsRow (w.heap.size + 2) 9 1 (.slice A0 n0 C0) n0 (ss (agW.take n0))) := Lib.hid (own_set HO0_2.out)
  have HP1_2 : Hid ((W3.setCell ⟨w.heap.size + 1, 2, none⟩ (.slice A2 n2 C2)).ownsRow (w.heap.size + 2) 9 1 (.slice A1 n1 C1) n1 (ss (faW.take n1))) := Lib.hid (own_set HO1_2.out)
  have HP2_2 : Hid ((W3.setCell ⟨w.heap.size + 1, 2, none⟩ (.slice A2 n2 C2)).ownsRow (w.heap.size + 2) 9 1 (.slice A2 n2 C2) n2 (ss (acW.take n2))) := Lib.hid (own_set HO2.out)
  go_upto_region 7 with fail
  clear hx2 hf2
  generalize (W3.setCell ⟨w.heap.size + 1, 2, none⟩ (.slice A2 n2 C2)) = W4 at *
  have zc := HS2.out.cells
  obtain ⟨zc0, zc1, zc2⟩ := zc
  have zH := HS2.out.1
  have y0' : W4.cell? ⟨w.heap.size, 0, none⟩ = some (.slice none 0 0) := by rw [Lib.cell_of_heap zH]; rfl
  have y1' : W4.cell? ⟨w.heap.size, 1, none⟩ = some (.slice none 0 0) := by rw [Lib.cell_of_heap zH]; rfl
  have y2' : W4.cell? ⟨w.heap.size, 2, none⟩ = some (.slice none 0 0) := by rw [Lib.cell_of_heap zH]; rfl
  have f0 := Lib.frozen_of_heap zH 0
  have f1 := Lib.frozen_of_heap zH 1
  have f2 := Lib.frozen_of_heap zH 2
  clear zH
  go_wp2
  have HZ3 := Lib.hid (set3 (a := .slice A0 n0 C0) (b := .slice A1 n1 C1) (c := .slice A2 n2 C2) HS2.out.1)
  have HB3 : Hid (Below w.heap.size w (((W4.setCell ⟨w.heap.size, 0, none⟩ (.slice A0 n0 C0)).setCell ⟨w.heap.size, 1, none⟩ (.slice A1 n1 C1)).setCell ⟨w.heap.size, 2, none⟩ (.slice A2 n2 C2))) := Lib.hid (((HS2.out.2.2.2.setCell (p := ⟨w.heap.size, 0, none⟩) (Nat.le_refl _) _).setCell (p := ⟨w.heap.size, 1, none⟩) (Nat.le_refl _) _).setCell (p := ⟨w.heap.size, 2, none⟩) (Nat.le_refl _) _)
  clear zc0 zc1 zc2 y0' y1' y2' f0 f1 f2
  generalize (((W4.setCell ⟨w.heap.size, 0, none⟩ (.slice A0 n0 C0)).setCell ⟨w.heap.size, 1, none⟩ (.slice A1 n1 C1)).setCell ⟨w.heap.size, 2, none⟩ (.slice A2 n2 C2)) = W5 at *
  (try simp only [Exit.inBlock, Exit.then])
  refine bodyPost_ret (ret_cell_row rfl _ _ w.heap.size _ _ _ _ rfl HZ3.out.1 Tryd.underlying39 rfl (by kernel_rfl)) rfl ?_
  have kp : ∀ g, w.heap.size + 2 ≤ g → g < W4.heap.size → W5.heap[g]? = W4.heap[g]? := fun g hg _ => HZ3.out.2.2 g (by omega)
  obtain ⟨_, _, q0, t0, t1, t2, r0⟩ := own_reads2 (own_keep HP0_2.out kp)
  obtain ⟨_, _, q1, t3, t4, t5, r1⟩ := own_reads2 (own_keep HP1_2.out kp)
  obtain ⟨_, _, q2, t6, t7, t8, r2⟩ := own_reads2 (own_keep HP2_2.out kp)
  injection q0 with q0 _ q0'
  injection q1 with q1 _ q1'
  injection q2 with q2 _ q2'
  subst q0 q0' q1 q1' q2 q2'
  refine ⟨_, rfl, ⟨A0, n0, C0, A1, n1, C1, A2, n2, C2, rfl, ⟨r0, t2, by omega, ?_, t0, t1⟩, ⟨r1, t5, by omega, ?_, t3, t4⟩, r2, t8, by omega, ?_, t6, t7⟩, HB3.out⟩
  · exact fun x hx => Nat.le_trans (usual_size.1 x (List.mem_of_mem_take hx)) (by unfold maxLen; omega)
  · exact fun x hx => Nat.le_trans (usual_size.2.1 x (List.mem_of_mem_take hx)) (by unfold maxLen; omega)
  · exact fun x hx => Nat.le_trans (usual_size.2.2 x (List.mem_of_mem_take hx)) (by unfold maxLen; omega)
end Go.Proofs.YtichhbnpdhfimaaDoor
