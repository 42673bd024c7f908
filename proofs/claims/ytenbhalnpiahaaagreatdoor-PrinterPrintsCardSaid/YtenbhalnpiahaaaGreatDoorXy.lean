/- Layer 7: text of the reference: operators between operands, second part. -/
import Derived.Test.YtenbhalnpiahaaaGreatDoorPh
namespace Go.Proofs.YtenbhalnpiahaaaGreatDoor
open Go.RowKit Go.Proofs.Ws
set_option maxRecDepth 100000 in
set_option maxHeartbeats 8000000 in
theorem text_m8 {w : World} {A F X : List ByteArray} {l : List Nd} {T : List ByteArray} {a0 : Option Addr} {n0 c0 : Nat} {a1 : Option Addr} {n1 c1 : Nat} {a2 : Option Addr} {n2 c2 : Nat} {al at_ : Option Addr} {i : Nat} (cl ct : Nat) (h : RT w A F X l T a0 n0 c0 a1 n1 c1 a2 n2 c2 al at_ i) {n : Nd} (hn : l.getD i nd0 = n) (hop : n.op = 8) : TextRun w A F X l a0 n0 c0 a1 n1 c1 a2 n2 c2 al cl at_ ct i := by
  have huy : usesY n.op = true := by rw [hop]; rfl
  have hux : usesX n.op = true := usesY_X huy
  have hxo := opsOk_x (h.ops i h.il) (by rw [hn]; exact hux)
  rw [hn] at hxo
  obtain ⟨x, hxn⟩ : ∃ x : Nat, n.x = (x : Int) := ⟨n.x.toNat, by omega⟩
  have hxi : x < i := by omega
  have hxl : x < l.length := Nat.lt_trans hxi h.il
  have bx0 : (0 : Int) ≤ (x : Int) := by omega
  have bx1 : (x : Int) < (i : Int) := by omega
  have bx2 : (x : Int) < (l.length : Int) := by omega
  have hyo := opsOk_y (h.ops i h.il) (by rw [hn]; exact huy)
  rw [hn] at hyo
  obtain ⟨y, hyn⟩ : ∃ y : Nat, n.y = (y : Int) := ⟨n.y.toNat, by omega⟩
  have hyi : y < i := by omega
  have hyl : y < l.length := Nat.lt_trans hyi h.il
  have by0 : (0 : Int) ≤ (y : Int) := by omega
  have by1 : (y : Int) < (i : Int) := by omega
  have by2 : (y : Int) < (l.length : Int) := by omega
  obtain ⟨ad, hA, hb, m0, m1, m2, m3, m4, m5⟩ := h.ls.nd_at h.il
  rw [hn] at m0 m1 m2 m3 m4 m5
  rw [hxn] at m4
  rw [hyn] at m5
  rw [hop] at m0
  have hadb : ∀ q, (ad.add q).block < w.heap.size := fun q => by rw [block_of_add]; exact hb
  have HBS : Hid (Below w.heap.size w (w.alloc (.cells #[.slice a0 n0 c0, .slice a1 n1 c1, .slice a2 n2 c2] 24))) := Lib.hid ((Below.refl _ w).alloc (Nat.le_refl _) _)
  have p0 := (HBS.out.cell (p := ad.add (i * 6)) (hadb _)).trans m0
  have p1 := add_cell ((HBS.out.cell (p := ad.add (i * 6 + 1)) (hadb _)).trans m1)
  have p2 := add_cell ((HBS.out.cell (p := ad.add (i * 6 + 2)) (hadb _)).trans m2)
  have p3 := add_cell ((HBS.out.cell (p := ad.add (i * 6 + 3)) (hadb _)).trans m3)
  have p4 := add_cell ((HBS.out.cell (p := ad.add (i * 6 + 4)) (hadb _)).trans m4)
  have p5 := add_cell ((HBS.out.cell (p := ad.add (i * 6 + 5)) (hadb _)).trans m5)
  have HBX := Lib.hid (h.boxes #[.int .i64 8, .int .i64 n.i, .int .i64 n.e, .int .i64 n.g, .int .i64 (x : Int), .int .i64 (y : Int)])
  have hil := h.il
  have hll := h.ll
  obtain ⟨ad3, at3, hA3, hB3, hopx⟩ := h.operand hxi
  rw [hA] at hA3
  injection hA3 with hA3
  subst hA3
  obtain ⟨ad4, at4, hA4, hB4, hopy⟩ := h.operand hyi
  rw [hA] at hA4
  injection hA4 with hA4
  subst hA4
  rw [hB3] at hB4
  injection hB4 with hB4
  subst hB4
  have HEX := Lib.hid (h.en hxi 0)
  have HEY := Lib.hid (h.en hyi 1)
  have hzx := (h.tx x hxi).2
  have hzy := (h.tx y hyi).2
  have HTX : Hid (tx A F X l i = en A F X l 0 x ++ 32 :: ((signW 8).data.toList ++ 32 :: en A F X l 1 y)) := Lib.hid (by rw [tx_bin h.ops h.il (by unfold opA; rw [hn]; exact huy), hn, hxn, hyn, Int.toNat_natCast, Int.toNat_natCast, show opA l i = 8 by unfold opA; rw [hn]; exact hop]; rfl)
  have hkx := h.known (x := x) (by omega)
  have hky := h.known (x := y) (by omega)
  have HLV : Hid (∀ z W, known z = true → Calls Tryz.prog 69 #[.int .i64 z] W fun e w' => e = .returned (.int .i64 ((levN z : Nat) : Int)) ∧ W = w') := Lib.hid (fun z W hz => rLevel_any _ hz W)
  have HL0 : Hid (∀ W, Calls Tryz.prog 69 #[.int .i64 8] W fun e w' => e = .returned (.int .i64 0) ∧ W = w') := Lib.hid (fun W => rLevel_any 8 rfl W)
  have HSG : Hid (∀ W, Calls Tryz.prog 71 #[.int .i64 8] W fun e w' => e = .returned (.string (sgB 8)) ∧ W = w') := Lib.hid (fun W => rSign_any 8 (by unfold MidN; decide) W)
  have HEC : Hid (∀ s (lv r : Int) W, s.size ≤ 4000 → Calls Tryz.prog 68 #[.string s, .int .i64 lv, .int .i64 r] W fun e w' => e = .returned (.string (encI r lv s)) ∧ W = w') := Lib.hid (fun s lv r W hs => rEnclI_any s lv r (by omega) W)
  obtain ⟨hbz, _, q0, q1, q2, hnb, _⟩ := HBX.out ((w.alloc (.cells #[.slice a0 n0 c0, .slice a1 n1 c1, .slice a2 n2 c2] 24)).alloc (.cells #[.int .i64 8, .int .i64 n.i, .int .i64 n.e, .int .i64 n.g, .int .i64 (x : Int), .int .i64 (y : Int)] 65)) (Below.refl _ _)
  have HB := Lib.hid hbz
  obtain ⟨ox, cx⟩ := hopx _ hbz
  obtain ⟨oy, cy⟩ := hopy _ hbz
  generalize T.getD x ByteArray.empty = zx at *
  generalize T.getD y ByteArray.empty = zy at *
  generalize opA l x = px at *
  generalize opA l y = py at *
  have e1 : (encI 0 ((levN px : Nat) : Int) zx).size ≤ 4002 := HEX.out.2
  have e2 : (encI 1 ((levN py : Nat) : Int) zy).size ≤ 4002 := HEY.out.2
  have l1 : (sgB 8).size ≤ 10 := by decide
  have g1 : (encI 0 ((levN px : Nat) : Int) zx ++ sgB 8).size ≤ 4012 := by simp only [ByteArray.size_append]; omega
  have HSL : Hid ((sgB 8).data.toList = 32 :: ((signW 8).data.toList ++ [32])) := Lib.hid rfl
  obtain ⟨sg, hsg⟩ : ∃ s, sgB 8 = s := ⟨_, rfl⟩
  rw [hsg] at HSG l1 g1 HSL
  have x0 := Lib.cell_of_heap hnb 0
  have x4 := Lib.cell_of_heap hnb 4
  have x5 := Lib.cell_of_heap hnb 5
  simp only [List.getElem?_toArray, List.getElem?_cons_succ, List.getElem?_cons_zero] at x0 x4 x5
  unfold TextRun
  rw [hA, hB3]
  clear h hn hop hux huy hxo hyo hA hB3 hb m0 m1 m2 m3 m4 m5 hadb HBS HBX hxn hyn hopx hopy hbz hnb hsg
  go_enter Tryz.func36, Tryz.ntmps36
  go_wp2_with fail
  refine (HL0.out _).mono ?_
  rintro e w1 ⟨rfl, hw1⟩
  subst w1
  go_wp2_with fail
  go_quiet (first | (go_at_call 69; exact quiet_same (HLV.out _ _ (by assumption))) | (go_at_call 71; exact quiet_same (HSG.out _)) | (go_at_call 68; exact quiet_same (HEC.out _ _ _ _ (by assumption))))
  go_wp2
  go_ret
  exact ⟨⟨_, rfl, by rw [HTX.out, ← HEX.out.1, ← HEY.out.1]; simp [HSL.out], by simp only [ByteArray.size_append]; omega⟩, below_drewN HB.out _⟩
set_option maxRecDepth 100000 in
set_option maxHeartbeats 8000000 in
theorem text_m19 {w : World} {A F X : List ByteArray} {l : List Nd} {T : List ByteArray} {a0 : Option Addr} {n0 c0 : Nat} {a1 : Option Addr} {n1 c1 : Nat} {a2 : Option Addr} {n2 c2 : Nat} {al at_ : Option Addr} {i : Nat} (cl ct : Nat) (h : RT w A F X l T a0 n0 c0 a1 n1 c1 a2 n2 c2 al at_ i) {n : Nd} (hn : l.getD i nd0 = n) (hop : n.op = 19) : TextRun w A F X l a0 n0 c0 a1 n1 c1 a2 n2 c2 al cl at_ ct i := by
  have huy : usesY n.op = true := by rw [hop]; rfl
  have hux : usesX n.op = true := usesY_X huy
  have hxo := opsOk_x (h.ops i h.il) (by rw [hn]; exact hux)
  rw [hn] at hxo
  obtain ⟨x, hxn⟩ : ∃ x : Nat, n.x = (x : Int) := ⟨n.x.toNat, by omega⟩
  have hxi : x < i := by omega
  have hxl : x < l.length := Nat.lt_trans hxi h.il
  have bx0 : (0 : Int) ≤ (x : Int) := by omega
  have bx1 : (x : Int) < (i : Int) := by omega
  have bx2 : (x : Int) < (l.length : Int) := by omega
  have hyo := opsOk_y (h.ops i h.il) (by rw [hn]; exact huy)
  rw [hn] at hyo
  obtain ⟨y, hyn⟩ : ∃ y : Nat, n.y = (y : Int) := ⟨n.y.toNat, by omega⟩
  have hyi : y < i := by omega
  have hyl : y < l.length := Nat.lt_trans hyi h.il
  have by0 : (0 : Int) ≤ (y : Int) := by omega
  have by1 : (y : Int) < (i : Int) := by omega
  have by2 : (y : Int) < (l.length : Int) := by omega
  obtain ⟨ad, hA, hb, m0, m1, m2, m3, m4, m5⟩ := h.ls.nd_at h.il
  rw [hn] at m0 m1 m2 m3 m4 m5
  rw [hxn] at m4
  rw [hyn] at m5
  rw [hop] at m0
  have hadb : ∀ q, (ad.add q).block < w.heap.size := fun q => by rw [block_of_add]; exact hb
  have HBS : Hid (Below w.heap.size w (w.alloc (.cells #[.slice a0 n0 c0, .slice a1 n1 c1, .slice a2 n2 c2] 24))) := Lib.hid ((Below.refl _ w).alloc (Nat.le_refl _) _)
  have p0 := (HBS.out.cell (p := ad.add (i * 6)) (hadb _)).trans m0
  have p1 := add_cell ((HBS.out.cell (p := ad.add (i * 6 + 1)) (hadb _)).trans m1)
  have p2 := add_cell ((HBS.out.cell (p := ad.add (i * 6 + 2)) (hadb _)).trans m2)
  have p3 := add_cell ((HBS.out.cell (p := ad.add (i * 6 + 3)) (hadb _)).trans m3)
  have p4 := add_cell ((HBS.out.cell (p := ad.add (i * 6 + 4)) (hadb _)).trans m4)
  have p5 := add_cell ((HBS.out.cell (p := ad.add (i * 6 + 5)) (hadb _)).trans m5)
  have HBX := Lib.hid (h.boxes #[.int .i64 19, .int .i64 n.i, .int .i64 n.e, .int .i64 n.g, .int .i64 (x : Int), .int .i64 (y : Int)])
  have hil := h.il
  have hll := h.ll
  obtain ⟨ad3, at3, hA3, hB3, hopx⟩ := h.operand hxi
  rw [hA] at hA3
  injection hA3 with hA3
  subst hA3
  obtain ⟨ad4, at4, hA4, hB4, hopy⟩ := h.operand hyi
  rw [hA] at hA4
  injection hA4 with hA4
  subst hA4
  rw [hB3] at hB4
  injection hB4 with hB4
  subst hB4
  have HEX := Lib.hid (h.en hxi 3)
  have HEY := Lib.hid (h.en hyi 2)
  have hzx := (h.tx x hxi).2
  have hzy := (h.tx y hyi).2
  have HTX : Hid (tx A F X l i = en A F X l 3 x ++ 32 :: ((signW 19).data.toList ++ 32 :: en A F X l 2 y)) := Lib.hid (by rw [tx_bin h.ops h.il (by unfold opA; rw [hn]; exact huy), hn, hxn, hyn, Int.toNat_natCast, Int.toNat_natCast, show opA l i = 19 by unfold opA; rw [hn]; exact hop]; rfl)
  have hkx := h.known (x := x) (by omega)
  have hky := h.known (x := y) (by omega)
  have HLV : Hid (∀ z W, known z = true → Calls Tryz.prog 69 #[.int .i64 z] W fun e w' => e = .returned (.int .i64 ((levN z : Nat) : Int)) ∧ W = w') := Lib.hid (fun z W hz => rLevel_any _ hz W)
  have HL0 : Hid (∀ W, Calls Tryz.prog 69 #[.int .i64 19] W fun e w' => e = .returned (.int .i64 2) ∧ W = w') := Lib.hid (fun W => rLevel_any 19 rfl W)
  have HSG : Hid (∀ W, Calls Tryz.prog 71 #[.int .i64 19] W fun e w' => e = .returned (.string (sgB 19)) ∧ W = w') := Lib.hid (fun W => rSign_any 19 (by unfold MidN; decide) W)
  have HEC : Hid (∀ s (lv r : Int) W, s.size ≤ 4000 → Calls Tryz.prog 68 #[.string s, .int .i64 lv, .int .i64 r] W fun e w' => e = .returned (.string (encI r lv s)) ∧ W = w') := Lib.hid (fun s lv r W hs => rEnclI_any s lv r (by omega) W)
  obtain ⟨hbz, _, q0, q1, q2, hnb, _⟩ := HBX.out ((w.alloc (.cells #[.slice a0 n0 c0, .slice a1 n1 c1, .slice a2 n2 c2] 24)).alloc (.cells #[.int .i64 19, .int .i64 n.i, .int .i64 n.e, .int .i64 n.g, .int .i64 (x : Int), .int .i64 (y : Int)] 65)) (Below.refl _ _)
  have HB := Lib.hid hbz
  obtain ⟨ox, cx⟩ := hopx _ hbz
  obtain ⟨oy, cy⟩ := hopy _ hbz
  generalize T.getD x ByteArray.empty = zx at *
  generalize T.getD y ByteArray.empty = zy at *
  generalize opA l x = px at *
  generalize opA l y = py at *
  have e1 : (encI 3 ((levN px : Nat) : Int) zx).size ≤ 4002 := HEX.out.2
  have e2 : (encI 2 ((levN py : Nat) : Int) zy).size ≤ 4002 := HEY.out.2
  have l1 : (sgB 19).size ≤ 10 := by decide
  have g1 : (encI 3 ((levN px : Nat) : Int) zx ++ sgB 19).size ≤ 4012 := by simp only [ByteArray.size_append]; omega
  have HSL : Hid ((sgB 19).data.toList = 32 :: ((signW 19).data.toList ++ [32])) := Lib.hid rfl
  obtain ⟨sg, hsg⟩ : ∃ s, sgB 19 = s := ⟨_, rfl⟩
  rw [hsg] at HSG l1 g1 HSL
  have x0 := Lib.cell_of_heap hnb 0
  have x4 := Lib.cell_of_heap hnb 4
  have x5 := Lib.cell_of_heap hnb 5
  simp only [List.getElem?_toArray, List.getElem?_cons_succ, List.getElem?_cons_zero] at x0 x4 x5
  unfold TextRun
  rw [hA, hB3]
  clear h hn hop hux huy hxo hyo hA hB3 hb m0 m1 m2 m3 m4 m5 hadb HBS HBX hxn hyn hopx hopy hbz hnb hsg
  go_enter Tryz.func36, Tryz.ntmps36
  go_wp2_with fail
  refine (HL0.out _).mono ?_
  rintro e w1 ⟨rfl, hw1⟩
  subst w1
  go_wp2_with fail
  go_quiet (first | (go_at_call 69; exact quiet_same (HLV.out _ _ (by assumption))) | (go_at_call 71; exact quiet_same (HSG.out _)) | (go_at_call 68; exact quiet_same (HEC.out _ _ _ _ (by assumption))))
  go_wp2
  go_ret
  exact ⟨⟨_, rfl, by rw [HTX.out, ← HEX.out.1, ← HEY.out.1]; simp [HSL.out], by simp only [ByteArray.size_append]; omega⟩, below_drewN HB.out _⟩
set_option maxRecDepth 100000 in
set_option maxHeartbeats 8000000 in
theorem text_m21 {w : World} {A F X : List ByteArray} {l : List Nd} {T : List ByteArray} {a0 : Option Addr} {n0 c0 : Nat} {a1 : Option Addr} {n1 c1 : Nat} {a2 : Option Addr} {n2 c2 : Nat} {al at_ : Option Addr} {i : Nat} (cl ct : Nat) (h : RT w A F X l T a0 n0 c0 a1 n1 c1 a2 n2 c2 al at_ i) {n : Nd} (hn : l.getD i nd0 = n) (hop : n.op = 21) : TextRun w A F X l a0 n0 c0 a1 n1 c1 a2 n2 c2 al cl at_ ct i := by
  have huy : usesY n.op = true := by rw [hop]; rfl
  have hux : usesX n.op = true := usesY_X huy
  have hxo := opsOk_x (h.ops i h.il) (by rw [hn]; exact hux)
  rw [hn] at hxo
  obtain ⟨x, hxn⟩ : ∃ x : Nat, n.x = (x : Int) := ⟨n.x.toNat, by omega⟩
  have hxi : x < i := by omega
  have hxl : x < l.length := Nat.lt_trans hxi h.il
  have bx0 : (0 : Int) ≤ (x : Int) := by omega
  have bx1 : (x : Int) < (i : Int) := by omega
  have bx2 : (x : Int) < (l.length : Int) := by omega
  have hyo := opsOk_y (h.ops i h.il) (by rw [hn]; exact huy)
  rw [hn] at hyo
  obtain ⟨y, hyn⟩ : ∃ y : Nat, n.y = (y : Int) := ⟨n.y.toNat, by omega⟩
  have hyi : y < i := by omega
  have hyl : y < l.length := Nat.lt_trans hyi h.il
  have by0 : (0 : Int) ≤ (y : Int) := by omega
  have by1 : (y : Int) < (i : Int) := by omega
  have by2 : (y : Int) < (l.length : Int) := by omega
  obtain ⟨ad, hA, hb, m0, m1, m2, m3, m4, m5⟩ := h.ls.nd_at h.il
  rw [hn] at m0 m1 m2 m3 m4 m5
  rw [hxn] at m4
  rw [hyn] at m5
  rw [hop] at m0
  have hadb : ∀ q, (ad.add q).block < w.heap.size := fun q => by rw [block_of_add]; exact hb
  have HBS : Hid (Below w.heap.size w (w.alloc (.cells #[.slice a0 n0 c0, .slice a1 n1 c1, .slice a2 n2 c2] 24))) := Lib.hid ((Below.refl _ w).alloc (Nat.le_refl _) _)
  have p0 := (HBS.out.cell (p := ad.add (i * 6)) (hadb _)).trans m0
  have p1 := add_cell ((HBS.out.cell (p := ad.add (i * 6 + 1)) (hadb _)).trans m1)
  have p2 := add_cell ((HBS.out.cell (p := ad.add (i * 6 + 2)) (hadb _)).trans m2)
  have p3 := add_cell ((HBS.out.cell (p := ad.add (i * 6 + 3)) (hadb _)).trans m3)
  have p4 := add_cell ((HBS.out.cell (p := ad.add (i * 6 + 4)) (hadb _)).trans m4)
  have p5 := add_cell ((HBS.out.cell (p := ad.add (i * 6 + 5)) (hadb _)).trans m5)
  have HBX := Lib.hid (h.boxes #[.int .i64 21, .int .i64 n.i, .int .i64 n.e, .int .i64 n.g, .int .i64 (x : Int), .int .i64 (y : Int)])
  have hil := h.il
  have hll := h.ll
  obtain ⟨ad3, at3, hA3, hB3, hopx⟩ := h.operand hxi
  rw [hA] at hA3
  injection hA3 with hA3
  subst hA3
  obtain ⟨ad4, at4, hA4, hB4, hopy⟩ := h.operand hyi
  rw [hA] at hA4
  injection hA4 with hA4
  subst hA4
  rw [hB3] at hB4
  injection hB4 with hB4
  subst hB4
  have HEX := Lib.hid (h.en hxi 3)
  have HEY := Lib.hid (h.en hyi 2)
  have hzx := (h.tx x hxi).2
  have hzy := (h.tx y hyi).2
  have HTX : Hid (tx A F X l i = en A F X l 3 x ++ 32 :: ((signW 21).data.toList ++ 32 :: en A F X l 2 y)) := Lib.hid (by rw [tx_bin h.ops h.il (by unfold opA; rw [hn]; exact huy), hn, hxn, hyn, Int.toNat_natCast, Int.toNat_natCast, show opA l i = 21 by unfold opA; rw [hn]; exact hop]; rfl)
  have hkx := h.known (x := x) (by omega)
  have hky := h.known (x := y) (by omega)
  have HLV : Hid (∀ z W, known z = true → Calls Tryz.prog 69 #[.int .i64 z] W fun e w' => e = .returned (.int .i64 ((levN z : Nat) : Int)) ∧ W = w') := Lib.hid (fun z W hz => rLevel_any _ hz W)
  have HL0 : Hid (∀ W, Calls Tryz.prog 69 #[.int .i64 21] W fun e w' => e = .returned (.int .i64 2) ∧ W = w') := Lib.hid (fun W => rLevel_any 21 rfl W)
  have HSG : Hid (∀ W, Calls Tryz.prog 71 #[.int .i64 21] W fun e w' => e = .returned (.string (sgB 21)) ∧ W = w') := Lib.hid (fun W => rSign_any 21 (by unfold MidN; decide) W)
  have HEC : Hid (∀ s (lv r : Int) W, s.size ≤ 4000 → Calls Tryz.prog 68 #[.string s, .int .i64 lv, .int .i64 r] W fun e w' => e = .returned (.string (encI r lv s)) ∧ W = w') := Lib.hid (fun s lv r W hs => rEnclI_any s lv r (by omega) W)
  obtain ⟨hbz, _, q0, q1, q2, hnb, _⟩ := HBX.out ((w.alloc (.cells #[.slice a0 n0 c0, .slice a1 n1 c1, .slice a2 n2 c2] 24)).alloc (.cells #[.int .i64 21, .int .i64 n.i, .int .i64 n.e, .int .i64 n.g, .int .i64 (x : Int), .int .i64 (y : Int)] 65)) (Below.refl _ _)
  have HB := Lib.hid hbz
  obtain ⟨ox, cx⟩ := hopx _ hbz
  obtain ⟨oy, cy⟩ := hopy _ hbz
  generalize T.getD x ByteArray.empty = zx at *
  generalize T.getD y ByteArray.empty = zy at *
  generalize opA l x = px at *
  generalize opA l y = py at *
  have e1 : (encI 3 ((levN px : Nat) : Int) zx).size ≤ 4002 := HEX.out.2
  have e2 : (encI 2 ((levN py : Nat) : Int) zy).size ≤ 4002 := HEY.out.2
  have l1 : (sgB 21).size ≤ 10 := by decide
  have g1 : (encI 3 ((levN px : Nat) : Int) zx ++ sgB 21).size ≤ 4012 := by simp only [ByteArray.size_append]; omega
  have HSL : Hid ((sgB 21).data.toList = 32 :: ((signW 21).data.toList ++ [32])) := Lib.hid rfl
  obtain ⟨sg, hsg⟩ : ∃ s, sgB 21 = s := ⟨_, rfl⟩
  rw [hsg] at HSG l1 g1 HSL
  have x0 := Lib.cell_of_heap hnb 0
  have x4 := Lib.cell_of_heap hnb 4
  have x5 := Lib.cell_of_heap hnb 5
  simp only [List.getElem?_toArray, List.getElem?_cons_succ, List.getElem?_cons_zero] at x0 x4 x5
  unfold TextRun
  rw [hA, hB3]
  clear h hn hop hux huy hxo hyo hA hB3 hb m0 m1 m2 m3 m4 m5 hadb HBS HBX hxn hyn hopx hopy hbz hnb hsg
  go_enter Tryz.func36, Tryz.ntmps36
  go_wp2_with fail
  refine (HL0.out _).mono ?_
  rintro e w1 ⟨rfl, hw1⟩
  subst w1
  go_wp2_with fail
  go_quiet (first | (go_at_call 69; exact quiet_same (HLV.out _ _ (by assumption))) | (go_at_call 71; exact quiet_same (HSG.out _)) | (go_at_call 68; exact quiet_same (HEC.out _ _ _ _ (by assumption))))
  go_wp2
  go_ret
  exact ⟨⟨_, rfl, by rw [HTX.out, ← HEX.out.1, ← HEY.out.1]; simp [HSL.out], by simp only [ByteArray.size_append]; omega⟩, below_drewN HB.out _⟩
end Go.Proofs.YtenbhalnpiahaaaGreatDoor
