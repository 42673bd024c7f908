/- Layer 7: text of the reference: operators with a condition. -/
import Derived.Test.YtenbhalnpiahaaaGreatDoorJy
import Derived.Test.YtenbhalnpiahaaaGreatDoorPh
namespace Go.Proofs.YtenbhalnpiahaaaGreatDoor
open Go.RowKit Go.Proofs.Ws
theorem RT.pos {w : World} {A F X : List ByteArray} {l : List Nd} {T : List ByteArray} {a0 : Option Addr} {n0 c0 : Nat} {a1 : Option Addr} {n1 c1 : Nat} {a2 : Option Addr} {n2 c2 : Nat} {al at_ : Option Addr} {i : Nat} (h : RT w A F X l T a0 n0 c0 a1 n1 c1 a2 n2 c2 al at_ i) {x : Nat} (hx : x < l.length) : Ws.tx A F X l x ≠ [] := by
  have hp : PrT A.length F.length X.length (treeAt l x) := prT_of (E := ⟨A, F, X, []⟩) (treeAt_ok h.ops _ _ (Nat.lt_succ_self _) hx) (treeAt_all h.ops (fun n hn => h.nd n hn) _ _ (Nat.lt_succ_self _) hx)
  exact List.length_pos_iff.1 (text_pos (NmT.of_sig h.ok) hp)
set_option maxRecDepth 100000 in
set_option maxHeartbeats 8000000 in
theorem text_iff {w : World} {A F X : List ByteArray} {l : List Nd} {T : List ByteArray} {a0 : Option Addr} {n0 c0 : Nat} {a1 : Option Addr} {n1 c1 : Nat} {a2 : Option Addr} {n2 c2 : Nat} {al at_ : Option Addr} {i : Nat} (cl ct : Nat) (h : RT w A F X l T a0 n0 c0 a1 n1 c1 a2 n2 c2 al at_ i) {n : Nd} (hn : l.getD i nd0 = n) (hop : n.op = 13 ∨ n.op = 14) (H : List UInt8) (hhead : ∀ W c, c.size ≤ 5000 → SigR W W.heap.size (sv a0 n0 c0 a1 n1 c1 a2 n2 c2) A F X → Calls Tryz.prog 70 #[.agg #[.slice a0 n0 c0, .slice a1 n1 c1, .slice a2 n2 c2], .agg #[.int .i64 n.op, .int .i64 n.i, .int .i64 n.e, .int .i64 n.g, .int .i64 n.x, .int .i64 n.y], .string c] W fun e w' => (∃ s : ByteArray, e = .returned (.string s) ∧ s.data.toList = H ++ ((barA c).data.toList ++ [93]) ∧ s.size ≤ 5300) ∧ Below W.heap.size W w') (htx : tx A F X l i = H ++ (condB (opA l n.x.toNat) (tx A F X l n.x.toNat) ++ 93 :: en A F X l 5 n.y.toNat)) : TextRun w A F X l a0 n0 c0 a1 n1 c1 a2 n2 c2 al cl at_ ct i := by
  have huy : usesY n.op = true := by rcases hop with h9 | h9 <;> rw [h9] <;> rfl
  have hux : usesX n.op = true := usesY_X huy
  have hxo := opsOk_x (h.ops i h.il) (by rw [hn]; exact hux)
  rw [hn] at hxo
  obtain ⟨x, hxn⟩ : ∃ x : Nat, n.x = (x : Int) := ⟨n.x.toNat, by omega⟩
  have hxi : x < i := by omega
  have hxl : x < l.length := Nat.lt_trans hxi h.il
  have bx0 : (0 : Int) ≤ (x : Int) := by omega
  have bx1 : (x : Int) < (i : Int) := by omega
  have bx2 : (x : Int) < (l.length : Int) := by omega
  have hyo := opsOk_y (h.ops i h.il) (by rw [hn]; exact huy)
  rw [hn] at hyo
  obtain ⟨y, hyn⟩ : ∃ y : Nat, n.y = (y : Int) := ⟨n.y.toNat, by omega⟩
  have hyi : y < i := by omega
  have hyl : y < l.length := Nat.lt_trans hyi h.il
  have by0 : (0 : Int) ≤ (y : Int) := by omega
  have by1 : (y : Int) < (i : Int) := by omega
  have by2 : (y : Int) < (l.length : Int) := by omega
  obtain ⟨ad, hA, hb, m0, m1, m2, m3, m4, m5⟩ := h.ls.nd_at h.il
  rw [hn] at m0 m1 m2 m3 m4 m5
  rw [hxn] at m4
  rw [hyn] at m5
  have hadb : ∀ q, (ad.add q).block < w.heap.size := fun q => by rw [block_of_add]; exact hb
  have HBS : Hid (Below w.heap.size w (w.alloc (.cells #[.slice a0 n0 c0, .slice a1 n1 c1, .slice a2 n2 c2] 24))) := Lib.hid ((Below.refl _ w).alloc (Nat.le_refl _) _)
  have p0 := (HBS.out.cell (p := ad.add (i * 6)) (hadb _)).trans m0
  have p1 := add_cell ((HBS.out.cell (p := ad.add (i * 6 + 1)) (hadb _)).trans m1)
  have p2 := add_cell ((HBS.out.cell (p := ad.add (i * 6 + 2)) (hadb _)).trans m2)
  have p3 := add_cell ((HBS.out.cell (p := ad.add (i * 6 + 3)) (hadb _)).trans m3)
  have p4 := add_cell ((HBS.out.cell (p := ad.add (i * 6 + 4)) (hadb _)).trans m4)
  have p5 := add_cell ((HBS.out.cell (p := ad.add (i * 6 + 5)) (hadb _)).trans m5)
  have HBX := Lib.hid (h.boxes #[.int .i64 n.op, .int .i64 n.i, .int .i64 n.e, .int .i64 n.g, .int .i64 (x : Int), .int .i64 (y : Int)])
  have hil := h.il
  have hll := h.ll
  obtain ⟨ad3, at3, hA3, hB3, hopx⟩ := h.operand hxi
  rw [hA] at hA3
  injection hA3 with hA3
  subst hA3
  obtain ⟨ad4, at4, hA4, hB4, hopy⟩ := h.operand hyi
  rw [hA] at hA4
  injection hA4 with hA4
  subst hA4
  rw [hB3] at hB4
  injection hB4 with hB4
  subst hB4
  rw [hxn, hyn, Int.toNat_natCast, Int.toNat_natCast] at htx
  have HEN := Lib.hid (h.en hyi 5)
  have hzx := (h.tx x hxi).2
  have hzy := (h.tx y hyi).2
  have HTZ := Lib.hid (h.tx x hxi).1
  have HNE := Lib.hid (h.pos hxl)
  have HTX := Lib.hid htx
  have hka := h.known (x := y) (by omega)
  have HLV : Hid (∀ W, Calls Tryz.prog 69 #[.int .i64 (opA l y)] W fun e w' => e = .returned (.int .i64 ((levN (opA l y) : Nat) : Int)) ∧ W = w') := Lib.hid (fun W => rLevel_any _ hka W)
  have HEC : Hid (∀ W, Calls Tryz.prog 68 #[.string (T.getD y ByteArray.empty), .int .i64 ((levN (opA l y) : Nat) : Int), .int .i64 5] W fun e w' => e = .returned (.string (encI ((5 : Nat) : Int) ((levN (opA l y) : Nat) : Int) (T.getD y ByteArray.empty))) ∧ W = w') := Lib.hid (fun W => rEnclI_any _ _ _ (by omega) W)
  have HOX : Hid (∀ W, Below w.heap.size w W → W.cell? (ad.add (x * 6)) = some (.int .i64 (opA l x)) ∧ W.cell? (at3.add x) = some (.string (T.getD x ByteArray.empty))) := Lib.hid hopx
  have HOY : Hid (∀ W, Below w.heap.size w W → W.cell? (ad.add (y * 6)) = some (.int .i64 (opA l y)) ∧ W.cell? (at3.add y) = some (.string (T.getD y ByteArray.empty))) := Lib.hid hopy
  generalize T.getD x ByteArray.empty = zx at *
  obtain ⟨E, hE⟩ : ∃ E, encI ((5 : Nat) : Int) ((levN (opA l y) : Nat) : Int) (T.getD y ByteArray.empty) = E := ⟨_, rfl⟩
  rw [hE] at HEN HEC
  have hEs := HEN.out.2
  generalize T.getD y ByteArray.empty = zy at *
  generalize opA l y = oz at *
  have d1 : (n.op == 1) = false := by rw [beq_eq_false_iff_ne]; omega
  have d2 : (n.op == 2) = false := by rw [beq_eq_false_iff_ne]; omega
  have d3 : (n.op == 3) = false := by rw [beq_eq_false_iff_ne]; omega
  have d16 : (n.op == 16) = false := by rw [beq_eq_false_iff_ne]; omega
  have HS : Hid (∀ W, Below (w.heap.size + 1 + 1) ((w.alloc (.cells #[.slice a0 n0 c0, .slice a1 n1 c1, .slice a2 n2 c2] 24)).alloc (.cells #[.int .i64 n.op, .int .i64 n.i, .int .i64 n.e, .int .i64 n.g, .int .i64 (x : Int), .int .i64 (y : Int)] 65)) W → (W.cell? ⟨w.heap.size, 0, none⟩ = some (.slice a0 n0 c0) ∧ W.cell? ⟨w.heap.size, 1, none⟩ = some (.slice a1 n1 c1) ∧ W.cell? ⟨w.heap.size, 2, none⟩ = some (.slice a2 n2 c2) ∧ W.cell? ⟨w.heap.size + 1, 0, none⟩ = some (.int .i64 n.op) ∧ W.cell? ⟨w.heap.size + 1, 1, none⟩ = some (.int .i64 n.i) ∧ W.cell? ⟨w.heap.size + 1, 2, none⟩ = some (.int .i64 n.e) ∧ W.cell? ⟨w.heap.size + 1, 3, none⟩ = some (.int .i64 n.g) ∧ W.cell? ⟨w.heap.size + 1, 4, none⟩ = some (.int .i64 (x : Int)) ∧ W.cell? ⟨w.heap.size + 1, 5, none⟩ = some (.int .i64 (y : Int)) ∧ W.cell? (ad.add (y * 6)) = some (.int .i64 oz) ∧ W.cell? (at3.add y) = some (.string zy)) ∧ Hid (Below (w.heap.size + 1 + 1) ((w.alloc (.cells #[.slice a0 n0 c0, .slice a1 n1 c1, .slice a2 n2 c2] 24)).alloc (.cells #[.int .i64 n.op, .int .i64 n.i, .int .i64 n.e, .int .i64 n.g, .int .i64 (x : Int), .int .i64 (y : Int)] 65)) W)) := Lib.hid (fun W hW => by
    obtain ⟨g1, g2, q0, q1, q2, hnb, _⟩ := HBX.out W hW
    exact ⟨⟨q0, q1, q2, Lib.cell_of_heap hnb 0, Lib.cell_of_heap hnb 1, Lib.cell_of_heap hnb 2, Lib.cell_of_heap hnb 3, Lib.cell_of_heap hnb 4, Lib.cell_of_heap hnb 5, (HOY.out W g1).1, (HOY.out W g1).2⟩, Lib.hid hW⟩)
  have HH : Hid (∀ W c, c.size ≤ 4000 → Hid (Below (w.heap.size + 1 + 1) ((w.alloc (.cells #[.slice a0 n0 c0, .slice a1 n1 c1, .slice a2 n2 c2] 24)).alloc (.cells #[.int .i64 n.op, .int .i64 n.i, .int .i64 n.e, .int .i64 n.g, .int .i64 (x : Int), .int .i64 (y : Int)] 65)) W) → Calls Tryz.prog 70 #[.agg #[.slice a0 n0 c0, .slice a1 n1 c1, .slice a2 n2 c2], .agg #[.int .i64 n.op, .int .i64 n.i, .int .i64 n.e, .int .i64 n.g, .int .i64 (x : Int), .int .i64 (y : Int)], .string c] W fun e w' => (∃ s : ByteArray, e = .returned (.string s) ∧ Hid (s.data.toList = H ++ ((barA c).data.toList ++ [93])) ∧ s.size ≤ 5300) ∧ w'.cell? ⟨w.heap.size, 0, none⟩ = some (.slice a0 n0 c0) ∧ w'.cell? ⟨w.heap.size, 1, none⟩ = some (.slice a1 n1 c1) ∧ w'.cell? ⟨w.heap.size, 2, none⟩ = some (.slice a2 n2 c2) ∧ w'.cell? ⟨w.heap.size + 1, 0, none⟩ = some (.int .i64 n.op) ∧ w'.cell? ⟨w.heap.size + 1, 1, none⟩ = some (.int .i64 n.i) ∧ w'.cell? ⟨w.heap.size + 1, 2, none⟩ = some (.int .i64 n.e) ∧ w'.cell? ⟨w.heap.size + 1, 3, none⟩ = some (.int .i64 n.g) ∧ w'.cell? ⟨w.heap.size + 1, 4, none⟩ = some (.int .i64 (x : Int)) ∧ w'.cell? ⟨w.heap.size + 1, 5, none⟩ = some (.int .i64 (y : Int)) ∧ w'.cell? (ad.add (y * 6)) = some (.int .i64 oz) ∧ w'.cell? (at3.add y) = some (.string zy) ∧ Hid (Below (w.heap.size + 1 + 1) ((w.alloc (.cells #[.slice a0 n0 c0, .slice a1 n1 c1, .slice a2 n2 c2] 24)).alloc (.cells #[.int .i64 n.op, .int .i64 n.i, .int .i64 n.e, .int .i64 n.g, .int .i64 (x : Int), .int .i64 (y : Int)] 65)) w')) := Lib.hid (fun W c hc hW => by
    obtain ⟨g1, g2, _, _, _, _, gs⟩ := HBX.out W hW.out
    have h5 := hhead W c (by omega) gs
    rw [hxn, hyn] at h5
    refine h5.mono ?_
    rintro e w' ⟨⟨s, h6, h7, h8⟩, h9⟩
    obtain ⟨⟨g10, g11, g12, g13, g14, g15, g16, g17, g18, g19, g20⟩, g9⟩ := HS.out w' (hW.out.trans (h9.mono g2))
    exact ⟨⟨s, h6, Lib.hid h7, h8⟩, g10, g11, g12, g13, g14, g15, g16, g17, g18, g19, g20, g9⟩)
  obtain ⟨⟨j0, j1, j2, j3, j4, j5, j6, j7, j8, j9, j10⟩, j99⟩ := HS.out ((w.alloc (.cells #[.slice a0 n0 c0, .slice a1 n1 c1, .slice a2 n2 c2] 24)).alloc (.cells #[.int .i64 n.op, .int .i64 n.i, .int .i64 n.e, .int .i64 n.g, .int .i64 (x : Int), .int .i64 (y : Int)] 65)) (Below.refl _ _)
  obtain ⟨⟨i0, i1, i2, i3, i4, i5, i6, i7, i8, i9, i10⟩, i99⟩ := HS.out (((w.alloc (.cells #[.slice a0 n0 c0, .slice a1 n1 c1, .slice a2 n2 c2] 24)).alloc (.cells #[.int .i64 n.op, .int .i64 n.i, .int .i64 n.e, .int .i64 n.g, .int .i64 (x : Int), .int .i64 (y : Int)] 65))).drew (Below.refl _ _).drew
  have HBE : Hid (∀ W, Hid (Below (w.heap.size + 1 + 1) ((w.alloc (.cells #[.slice a0 n0 c0, .slice a1 n1 c1, .slice a2 n2 c2] 24)).alloc (.cells #[.int .i64 n.op, .int .i64 n.i, .int .i64 n.e, .int .i64 n.g, .int .i64 (x : Int), .int .i64 (y : Int)] 65)) W) → Below w.heap.size w W) := Lib.hid (fun W hW => (HBX.out W hW.out).1)
  obtain ⟨ocx, tcx⟩ := HOX.out _ (HBX.out ((w.alloc (.cells #[.slice a0 n0 c0, .slice a1 n1 c1, .slice a2 n2 c2] 24)).alloc (.cells #[.int .i64 n.op, .int .i64 n.i, .int .i64 n.e, .int .i64 n.g, .int .i64 (x : Int), .int .i64 (y : Int)] 65)) (Below.refl _ _)).1
  have hsw : (n.op == 13) = true ∨ ((n.op == 13) = false ∧ (n.op == 14) = true) := by rcases hop with h9 | h9 <;> rw [h9] <;> decide
  unfold TextRun
  rw [hA, hB3]
  clear h hn hop hux huy hxo hyo hA hB3 hb m0 m1 m2 m3 m4 m5 hadb HBS HBX hhead hxn hyn hka hopx hopy HOX HOY HS hE htx
  by_cases ho : opA l x = 1
  · rw [ho] at ocx HTX
    clear ho
    rcases hsw with dd | ⟨dd, dd2⟩
    all_goals
      go_enter Tryz.func36, Tryz.ntmps36
      go_wp2_with fail
      go_region_held3 (fun W => (W.cell? ⟨w.heap.size, 0, none⟩ = some (.slice a0 n0 c0) ∧ W.cell? ⟨w.heap.size, 1, none⟩ = some (.slice a1 n1 c1) ∧ W.cell? ⟨w.heap.size, 2, none⟩ = some (.slice a2 n2 c2) ∧ W.cell? ⟨w.heap.size + 1, 0, none⟩ = some (.int .i64 n.op) ∧ W.cell? ⟨w.heap.size + 1, 1, none⟩ = some (.int .i64 n.i) ∧ W.cell? ⟨w.heap.size + 1, 2, none⟩ = some (.int .i64 n.e) ∧ W.cell? ⟨w.heap.size + 1, 3, none⟩ = some (.int .i64 n.g) ∧ W.cell? ⟨w.heap.size + 1, 4, none⟩ = some (.int .i64 (x : Int)) ∧ W.cell? ⟨w.heap.size + 1, 5, none⟩ = some (.int .i64 (y : Int)) ∧ W.cell? (ad.add (y * 6)) = some (.int .i64 oz) ∧ W.cell? (at3.add y) = some (.string zy) ∧ Hid (Below (w.heap.size + 1 + 1) ((w.alloc (.cells #[.slice a0 n0 c0, .slice a1 n1 c1, .slice a2 n2 c2] 24)).alloc (.cells #[.int .i64 n.op, .int .i64 n.i, .int .i64 n.e, .int .i64 n.g, .int .i64 (x : Int), .int .i64 (y : Int)] 65)) W))) (first | assumption | (refine ⟨?_, ?_, ?_, ?_, ?_, ?_, ?_, ?_, ?_, ?_, ?_, ?_⟩ <;> first | assumption | go_keep) | go_keep)
        (first
          | (go_at_call 70; refine (HH.out _ _ (by decide) (by assumption)).mono ?_; rintro e Wb ⟨⟨s, rfl, hs, hsz⟩, k0, k1, k2, k3, k4, k5, k6, k7, k8, k9, k10, k99⟩)
          | (go_at_call 69; refine (HLV.out _).mono ?_; rintro e Wc ⟨rfl, hWc⟩; subst Wc)
          | (go_at_call 68; refine (HEC.out _).mono ?_; rintro e Wd ⟨rfl, hWd⟩; subst Wd; have hsum : ¬ 9223372036854775807 < s.size + E.size := by omega))
      go_wp2
      go_ret
      exact ⟨⟨_, rfl, by rw [HTX.out, ← HEN.out.1]; simp [hs.out, condB, barA], by simp only [ByteArray.size_append]; omega⟩, HBE.out _ k99⟩
  · have dx : (opA l x == 1) = false := by rw [beq_eq_false_iff_ne]; exact ho
    have HCB : Hid (condB (opA l x) (tx A F X l x) = 124 :: zx.data.toList) := Lib.hid (by unfold condB; rw [if_neg ho, HTZ.out])
    have HBA : Hid ((barA zx).data.toList = 124 :: zx.data.toList) := Lib.hid (by unfold barA; rw [if_neg (by rw [HTZ.out]; exact HNE.out)]; simp)
    generalize opA l x = po at *
    clear ho
    rcases hsw with dd | ⟨dd, dd2⟩
    all_goals
      go_enter Tryz.func36, Tryz.ntmps36
      go_wp2_with fail
      go_region_held3 (fun W => (W.cell? ⟨w.heap.size, 0, none⟩ = some (.slice a0 n0 c0) ∧ W.cell? ⟨w.heap.size, 1, none⟩ = some (.slice a1 n1 c1) ∧ W.cell? ⟨w.heap.size, 2, none⟩ = some (.slice a2 n2 c2) ∧ W.cell? ⟨w.heap.size + 1, 0, none⟩ = some (.int .i64 n.op) ∧ W.cell? ⟨w.heap.size + 1, 1, none⟩ = some (.int .i64 n.i) ∧ W.cell? ⟨w.heap.size + 1, 2, none⟩ = some (.int .i64 n.e) ∧ W.cell? ⟨w.heap.size + 1, 3, none⟩ = some (.int .i64 n.g) ∧ W.cell? ⟨w.heap.size + 1, 4, none⟩ = some (.int .i64 (x : Int)) ∧ W.cell? ⟨w.heap.size + 1, 5, none⟩ = some (.int .i64 (y : Int)) ∧ W.cell? (ad.add (y * 6)) = some (.int .i64 oz) ∧ W.cell? (at3.add y) = some (.string zy) ∧ Hid (Below (w.heap.size + 1 + 1) ((w.alloc (.cells #[.slice a0 n0 c0, .slice a1 n1 c1, .slice a2 n2 c2] 24)).alloc (.cells #[.int .i64 n.op, .int .i64 n.i, .int .i64 n.e, .int .i64 n.g, .int .i64 (x : Int), .int .i64 (y : Int)] 65)) W))) (first | assumption | (refine ⟨?_, ?_, ?_, ?_, ?_, ?_, ?_, ?_, ?_, ?_, ?_, ?_⟩ <;> first | assumption | go_keep) | go_keep)
        (first
          | (go_at_call 70; refine (HH.out _ _ hzx (by assumption)).mono ?_; rintro e Wb ⟨⟨s, rfl, hs, hsz⟩, k0, k1, k2, k3, k4, k5, k6, k7, k8, k9, k10, k99⟩)
          | (go_at_call 69; refine (HLV.out _).mono ?_; rintro e Wc ⟨rfl, hWc⟩; subst Wc)
          | (go_at_call 68; refine (HEC.out _).mono ?_; rintro e Wd ⟨rfl, hWd⟩; subst Wd; have hsum : ¬ 9223372036854775807 < s.size + E.size := by omega))
      go_wp2
      go_ret
      exact ⟨⟨_, rfl, by rw [HTX.out, ← HEN.out.1, HCB.out]; simp [hs.out, HBA.out], by simp only [ByteArray.size_append]; omega⟩, HBE.out _ k99⟩
end Go.Proofs.YtenbhalnpiahaaaGreatDoor
