/- Layer 5: the law's text of a tree. -/
import Derived.Test.YtcbmncafmofcpaaNc
namespace Go.Proofs.Ytcbmncafmofcpaa
open Go.RowKit Go.Proofs.Ws Go.Maps
set_option maxRecDepth 100000 in
set_option maxHeartbeats 4000000 in
theorem tree_leaf (f : List Nd) (A : Option Addr) (n c i : Nat) (lev : Int) (x : Nd) (w : World) (hi : i < n) (_hn : n ≤ 100) (hx : f.getD i nd0 = x) (hasc : ascN x) (hk : known x.op = true) (hux : usesX x.op = false) (hl : 0 < lev) (hR : Reads w w.heap.size 6 A n (nds f)) :
    Calls Try.prog 44 #[.slice A n c, .int .i64 (i : Int), .int .i64 lev] w fun e w' => e = .returned (.tuple #[.string (headB x ++ clB), .bool true]) ∧ Below w.heap.size w w' := by
  have huy : usesY x.op = false := by
    cases h : usesY x.op with
    | false => rfl
    | true => have := usesY_X h; rw [hux] at this; cases this
  obtain ⟨⟨o1, o2⟩, ⟨i1, i2⟩, ⟨e1, e2⟩, ⟨g1, g2⟩⟩ := hasc
  have wo1 : wrap64 (65 + x.op) = 65 + x.op := by unfold wrap64; omega
  have wo2 : IntKind.i64.wrap (65 + x.op) = 65 + x.op := by rw [IntKind.wrap_i64]; omega
  have wo3 : IntKind.i32.wrap (65 + x.op) = 65 + x.op := by rw [IntKind.wrap_i32]; omega
  have wi1 : wrap64 (48 + x.i) = 48 + x.i := by unfold wrap64; omega
  have wi2 : IntKind.i64.wrap (48 + x.i) = 48 + x.i := by rw [IntKind.wrap_i64]; omega
  have wi3 : IntKind.i32.wrap (48 + x.i) = 48 + x.i := by rw [IntKind.wrap_i32]; omega
  have we1 : wrap64 (48 + x.e) = 48 + x.e := by unfold wrap64; omega
  have we2 : IntKind.i64.wrap (48 + x.e) = 48 + x.e := by rw [IntKind.wrap_i64]; omega
  have we3 : IntKind.i32.wrap (48 + x.e) = 48 + x.e := by rw [IntKind.wrap_i32]; omega
  have wg1 : wrap64 (48 + x.g) = 48 + x.g := by unfold wrap64; omega
  have wg2 : IntKind.i64.wrap (48 + x.g) = 48 + x.g := by rw [IntKind.wrap_i64]; omega
  have wg3 : IntKind.i32.wrap (48 + x.g) = 48 + x.g := by rw [IntKind.wrap_i32]; omega
  obtain ⟨s1, hs1⟩ : ∃ s, Utf8.encode (65 + x.op) = s := ⟨_, rfl⟩
  obtain ⟨s2, hs2⟩ : ∃ s, Utf8.encode (48 + x.i) = s := ⟨_, rfl⟩
  obtain ⟨s3, hs3⟩ : ∃ s, Utf8.encode (48 + x.e) = s := ⟨_, rfl⟩
  obtain ⟨s4, hs4⟩ : ∃ s, Utf8.encode (48 + x.g) = s := ⟨_, rfl⟩
  have z1 : s1.size = 1 := by rw [← hs1, enc_one _ (by omega) (by omega)]; rfl
  have z2 : s2.size = 1 := by rw [← hs2, enc_one _ (by omega) (by omega)]; rfl
  have z3 : s3.size = 1 := by rw [← hs3, enc_one _ (by omega) (by omega)]; rfl
  have z4 : s4.size = 1 := by rw [← hs4, enc_one _ (by omega) (by omega)]; rfl
  have HH : Hid (headB x = ⟨#[40]⟩ ++ s1 ++ s2 ++ s3 ++ s4) := Lib.hid (by unfold headB opB; rw [hs1, hs2, hs3, hs4])
  obtain ⟨ad, rfl, hb, m0, m1, m2, m3, m4, m5⟩ := hR.nd_at hi
  rw [hx] at m0 m1 m2 m3 m4 m5
  have l1 := add_cell m1
  have l2 := add_cell m2
  have l3 := add_cell m3
  have l4 := add_cell m4
  have l5 := add_cell m5
  have d1 : decide ((i : Int) < 0) = false := decide_eq_false (by omega)
  have d2 : decide ((n : Int) ≤ (i : Int)) = false := decide_eq_false (by omega)
  have d3 : decide (n ≤ i) = false := decide_eq_false (by omega)
  have d4 : (lev == 0) = false := by rw [beq_eq_false_iff_ne]; omega
  have HUX := Lib.hid (fun W => rUsesX_any x.op hk W)
  have HUY := Lib.hid (fun W => rUsesY_any x.op hk W)
  rw [hux] at HUX
  rw [huy] at HUY
  have HB0 : Hid (Below w.heap.size w (w.alloc (.cells #[.int .i64 x.op, .int .i64 x.i, .int .i64 x.e, .int .i64 x.g, .int .i64 x.x, .int .i64 x.y] 44))) := Lib.hid ((Below.refl _ w).alloc (Nat.le_refl _) _)
  have HRV : Hid (headB x ++ clB = ⟨#[40]⟩ ++ s1 ++ s2 ++ s3 ++ s4 ++ ⟨#[41]⟩) := Lib.hid (by rw [HH.out]; rfl)
  rw [HRV.out]
  have HBX := Lib.hid (Box.made w x 44)
  clear hR hx hux huy hk HH HRV
  go_enter Try.func44, Try.ntmps44
  go_wp2_with fail
  refine (HUX.out _).mono ?_
  rintro e w1 ⟨rfl, rfl⟩
  go_wp2_with fail
  refine (HUY.out _).mono ?_
  rintro e w1 ⟨rfl, rfl⟩
  go_wp2
  go_ret2
  exact ⟨rfl, HB0.out⟩
set_option maxRecDepth 100000 in
set_option maxHeartbeats 4000000 in
theorem tree_un (f : List Nd) (A : Option Addr) (n c i : Nat) (lev : Int) (x : Nd) (ta : ByteArray) (w : World) (hi : i < n) (_hn : n ≤ 100) (hnc : n ≤ c) (hx : f.getD i nd0 = x) (hasc : ascN x) (hk : known x.op = true) (hux : usesX x.op = true) (huy : usesY x.op = false) (hl : 0 < lev) (hl2 : lev ≤ 1000) (hta : ta.size ≤ 1000000000000) (hR : Reads w w.heap.size 6 A n (nds f))
    (hrec : ∀ W, Below w.heap.size w W → Calls Try.prog 44 #[.slice A i c, .int .i64 x.x, .int .i64 (lev - 1)] W fun e w' => e = .returned (.tuple #[.string ta, .bool true]) ∧ Below W.heap.size W w') :
    Calls Try.prog 44 #[.slice A n c, .int .i64 (i : Int), .int .i64 lev] w fun e w' => e = .returned (.tuple #[.string (headB x ++ ta ++ clB), .bool true]) ∧ Below w.heap.size w w' := by
  obtain ⟨⟨o1, o2⟩, ⟨i1, i2⟩, ⟨e1, e2⟩, ⟨g1, g2⟩⟩ := hasc
  have wo1 : wrap64 (65 + x.op) = 65 + x.op := by unfold wrap64; omega
  have wo2 : IntKind.i64.wrap (65 + x.op) = 65 + x.op := by rw [IntKind.wrap_i64]; omega
  have wo3 : IntKind.i32.wrap (65 + x.op) = 65 + x.op := by rw [IntKind.wrap_i32]; omega
  have wi1 : wrap64 (48 + x.i) = 48 + x.i := by unfold wrap64; omega
  have wi2 : IntKind.i64.wrap (48 + x.i) = 48 + x.i := by rw [IntKind.wrap_i64]; omega
  have wi3 : IntKind.i32.wrap (48 + x.i) = 48 + x.i := by rw [IntKind.wrap_i32]; omega
  have we1 : wrap64 (48 + x.e) = 48 + x.e := by unfold wrap64; omega
  have we2 : IntKind.i64.wrap (48 + x.e) = 48 + x.e := by rw [IntKind.wrap_i64]; omega
  have we3 : IntKind.i32.wrap (48 + x.e) = 48 + x.e := by rw [IntKind.wrap_i32]; omega
  have wg1 : wrap64 (48 + x.g) = 48 + x.g := by unfold wrap64; omega
  have wg2 : IntKind.i64.wrap (48 + x.g) = 48 + x.g := by rw [IntKind.wrap_i64]; omega
  have wg3 : IntKind.i32.wrap (48 + x.g) = 48 + x.g := by rw [IntKind.wrap_i32]; omega
  obtain ⟨s1, hs1⟩ : ∃ s, Utf8.encode (65 + x.op) = s := ⟨_, rfl⟩
  obtain ⟨s2, hs2⟩ : ∃ s, Utf8.encode (48 + x.i) = s := ⟨_, rfl⟩
  obtain ⟨s3, hs3⟩ : ∃ s, Utf8.encode (48 + x.e) = s := ⟨_, rfl⟩
  obtain ⟨s4, hs4⟩ : ∃ s, Utf8.encode (48 + x.g) = s := ⟨_, rfl⟩
  have z1 : s1.size = 1 := by rw [← hs1, enc_one _ (by omega) (by omega)]; rfl
  have z2 : s2.size = 1 := by rw [← hs2, enc_one _ (by omega) (by omega)]; rfl
  have z3 : s3.size = 1 := by rw [← hs3, enc_one _ (by omega) (by omega)]; rfl
  have z4 : s4.size = 1 := by rw [← hs4, enc_one _ (by omega) (by omega)]; rfl
  have HH : Hid (headB x = ⟨#[40]⟩ ++ s1 ++ s2 ++ s3 ++ s4) := Lib.hid (by unfold headB opB; rw [hs1, hs2, hs3, hs4])
  obtain ⟨ad, rfl, hb, m0, m1, m2, m3, m4, m5⟩ := hR.nd_at hi
  rw [hx] at m0 m1 m2 m3 m4 m5
  have l1 := add_cell m1
  have l2 := add_cell m2
  have l3 := add_cell m3
  have l4 := add_cell m4
  have l5 := add_cell m5
  have d1 : decide ((i : Int) < 0) = false := decide_eq_false (by omega)
  have d2 : decide ((n : Int) ≤ (i : Int)) = false := decide_eq_false (by omega)
  have d3 : decide (n ≤ i) = false := decide_eq_false (by omega)
  have d4 : (lev == 0) = false := by rw [beq_eq_false_iff_ne]; omega
  have lw1 : wrap64 (lev - 1) = lev - 1 := by unfold wrap64; omega
  have lw2 : IntKind.i64.wrap (lev - 1) = lev - 1 := by rw [IntKind.wrap_i64]; omega
  have hic : i ≤ c := by omega
  have HUX := Lib.hid (fun W => rUsesX_any x.op hk W)
  have HUY := Lib.hid (fun W => rUsesY_any x.op hk W)
  rw [hux] at HUX
  rw [huy] at HUY
  have HREC := Lib.hid hrec
  have HB0 : Hid (Below w.heap.size w (w.alloc (.cells #[.int .i64 x.op, .int .i64 x.i, .int .i64 x.e, .int .i64 x.g, .int .i64 x.x, .int .i64 x.y] 44))) := Lib.hid ((Below.refl _ w).alloc (Nat.le_refl _) _)
  have HBX := Lib.hid (Box.made w x 44)
  have hs0 : w.heap.size < (w.alloc (.cells #[.int .i64 x.op, .int .i64 x.i, .int .i64 x.e, .int .i64 x.g, .int .i64 x.x, .int .i64 x.y] 44)).heap.size := by simp
  obtain ⟨hd, hhd⟩ : ∃ s, (⟨#[40]⟩ ++ s1 ++ s2 ++ s3 ++ s4 : ByteArray) = s := ⟨_, rfl⟩
  have z5 : hd.size = 5 := by rw [← hhd]; simp [ByteArray.size_append, z1, z2, z3, z4]; rfl
  obtain ⟨h1, hh1⟩ : ∃ s, hd ++ ta = s := ⟨_, rfl⟩
  have z6 : h1.size = 5 + ta.size := by rw [← hh1, ByteArray.size_append, z5]
  have q1 : hd.size + ta.size ≤ 9223372036854775807 := by omega
  have q2 : 5 + ta.size ≤ 9223372036854775807 := by omega
  have q3 : h1.size + 1 ≤ 9223372036854775807 := by omega
  have q4 : 5 + ta.size + 1 ≤ 9223372036854775807 := by omega
  have HRV : Hid (headB x ++ ta ++ clB = h1 ++ ⟨#[41]⟩) := Lib.hid (by rw [HH.out, hhd, hh1]; rfl)
  rw [HRV.out]
  clear hR hx hux huy hk HH HRV hrec
  go_enter Try.func44, Try.ntmps44
  go_wp2_with fail
  clear m0 m1 m2 m3 m4 m5 l1 l2 l3 l4 l5
  have HG : Hid (∀ W, Below (w.heap.size + 1) (w.alloc (.cells #[.int .i64 x.op, .int .i64 x.i, .int .i64 x.e, .int .i64 x.g, .int .i64 x.x, .int .i64 x.y] 44)) W → Below w.heap.size w W ∧ w.heap.size + 1 ≤ W.heap.size) := Lib.hid (fun W hW => by
    have h1 : Below w.heap.size w W := ((Below.refl _ w).alloc (Nat.le_refl _) _).trans (hW.mono (by omega))
    exact ⟨h1, by have := hW.size; simpa using this⟩)
  have HS : Hid (∀ W, Below (w.heap.size + 1) (w.alloc (.cells #[.int .i64 x.op, .int .i64 x.i, .int .i64 x.e, .int .i64 x.g, .int .i64 x.x, .int .i64 x.y] 44)) W → W.cell? ⟨w.heap.size, 0, none⟩ = some (.int .i64 x.op) ∧ W.cell? ⟨w.heap.size, 4, none⟩ = some (.int .i64 x.x) ∧ W.cell? ⟨w.heap.size, 5, none⟩ = some (.int .i64 x.y) ∧ Hid (Below (w.heap.size + 1) (w.alloc (.cells #[.int .i64 x.op, .int .i64 x.i, .int .i64 x.e, .int .i64 x.g, .int .i64 x.x, .int .i64 x.y] 44)) W)) := Lib.hid (fun W hW => by
    obtain ⟨b0, b1, b2, b3, b4, b5, _⟩ := HBX.out.keep (W' := W) (hW.block _ (by omega))
    exact ⟨b0, b4, b5, Lib.hid hW⟩)
  have K1 : Hid (∀ W, Hid (Below (w.heap.size + 1) (w.alloc (.cells #[.int .i64 x.op, .int .i64 x.i, .int .i64 x.e, .int .i64 x.g, .int .i64 x.x, .int .i64 x.y] 44)) W) → Calls Try.prog 44 #[.slice (some ad) i c, .int .i64 x.x, .int .i64 (lev - 1)] W fun e W' => e = .returned (.tuple #[.string ta, .bool true]) ∧ W'.cell? ⟨w.heap.size, 0, none⟩ = some (.int .i64 x.op) ∧ W'.cell? ⟨w.heap.size, 4, none⟩ = some (.int .i64 x.x) ∧ W'.cell? ⟨w.heap.size, 5, none⟩ = some (.int .i64 x.y) ∧ Hid (Below (w.heap.size + 1) (w.alloc (.cells #[.int .i64 x.op, .int .i64 x.i, .int .i64 x.e, .int .i64 x.g, .int .i64 x.x, .int .i64 x.y] 44)) W')) := Lib.hid (fun W hW => by
    refine (HREC.out W (HG.out _ hW.out).1).mono ?_
    rintro e w' ⟨rfl, h4⟩
    exact ⟨rfl, HS.out _ (hW.out.trans (h4.mono (HG.out _ hW.out).2))⟩)
  have HB1 : Hid (Below (w.heap.size + 1) (w.alloc (.cells #[.int .i64 x.op, .int .i64 x.i, .int .i64 x.e, .int .i64 x.g, .int .i64 x.x, .int .i64 x.y] 44)) (w.alloc (.cells #[.int .i64 x.op, .int .i64 x.i, .int .i64 x.e, .int .i64 x.g, .int .i64 x.x, .int .i64 x.y] 44))) := Lib.hid (Below.refl _ _)
  generalize w.alloc (.cells #[.int .i64 x.op, .int .i64 x.i, .int .i64 x.e, .int .i64 x.g, .int .i64 x.x, .int .i64 x.y] 44) = w0 at *
  refine (HUX.out _).mono ?_
  rintro e w1 ⟨rfl, rfl⟩
  obtain ⟨b0, b4, b5, _⟩ := HS.out _ HB1.out
  have hc6 : Hid (Below (w.heap.size + 1) w0 w0.drew) := Lib.hid HB1.out.drew
  go_wp2_with fail
  go_region_held3 (fun W => W.cell? ⟨w.heap.size, 0, none⟩ = some (.int .i64 x.op) ∧ W.cell? ⟨w.heap.size, 4, none⟩ = some (.int .i64 x.x) ∧ W.cell? ⟨w.heap.size, 5, none⟩ = some (.int .i64 x.y) ∧ Hid (Below (w.heap.size + 1) w0 W)) (first | assumption | (refine ⟨?_, ?_, ?_, ?_⟩ <;> assumption) | go_keep)
    (first
      | (go_at_call 44; refine (K1.out _ ?_).mono ?_; (first | assumption | simp [*]); rintro e Wb ⟨rfl, g0, g4, g5, g6⟩))
  go_wp2_with fail
  refine (HUY.out _).mono ?_
  rintro e w1 ⟨rfl, rfl⟩
  go_wp2
  go_ret2
  exact ⟨rfl, (HG.out _ g6.out).1⟩
set_option maxRecDepth 100000 in
set_option maxHeartbeats 4000000 in
theorem tree_bin (f : List Nd) (A : Option Addr) (n c i : Nat) (lev : Int) (x : Nd) (ta tb : ByteArray) (w : World) (hi : i < n) (_hn : n ≤ 100) (hnc : n ≤ c) (hx : f.getD i nd0 = x) (hasc : ascN x) (hk : known x.op = true) (hux : usesX x.op = true) (huy : usesY x.op = true) (hl : 0 < lev) (hl2 : lev ≤ 1000) (hta : ta.size ≤ 1000000000000) (htb : tb.size ≤ 1000000000000) (hR : Reads w w.heap.size 6 A n (nds f))
    (hrec : ∀ W, Below w.heap.size w W → Calls Try.prog 44 #[.slice A i c, .int .i64 x.x, .int .i64 (lev - 1)] W fun e w' => e = .returned (.tuple #[.string ta, .bool true]) ∧ Below W.heap.size W w')
    (hrec2 : ∀ W, Below w.heap.size w W → Calls Try.prog 44 #[.slice A i c, .int .i64 x.y, .int .i64 (lev - 1)] W fun e w' => e = .returned (.tuple #[.string tb, .bool true]) ∧ Below W.heap.size W w') :
    Calls Try.prog 44 #[.slice A n c, .int .i64 (i : Int), .int .i64 lev] w fun e w' => e = .returned (.tuple #[.string (headB x ++ ta ++ tb ++ clB), .bool true]) ∧ Below w.heap.size w w' := by
  obtain ⟨⟨o1, o2⟩, ⟨i1, i2⟩, ⟨e1, e2⟩, ⟨g1, g2⟩⟩ := hasc
  have wo1 : wrap64 (65 + x.op) = 65 + x.op := by unfold wrap64; omega
  have wo2 : IntKind.i64.wrap (65 + x.op) = 65 + x.op := by rw [IntKind.wrap_i64]; omega
  have wo3 : IntKind.i32.wrap (65 + x.op) = 65 + x.op := by rw [IntKind.wrap_i32]; omega
  have wi1 : wrap64 (48 + x.i) = 48 + x.i := by unfold wrap64; omega
  have wi2 : IntKind.i64.wrap (48 + x.i) = 48 + x.i := by rw [IntKind.wrap_i64]; omega
  have wi3 : IntKind.i32.wrap (48 + x.i) = 48 + x.i := by rw [IntKind.wrap_i32]; omega
  have we1 : wrap64 (48 + x.e) = 48 + x.e := by unfold wrap64; omega
  have we2 : IntKind.i64.wrap (48 + x.e) = 48 + x.e := by rw [IntKind.wrap_i64]; omega
  have we3 : IntKind.i32.wrap (48 + x.e) = 48 + x.e := by rw [IntKind.wrap_i32]; omega
  have wg1 : wrap64 (48 + x.g) = 48 + x.g := by unfold wrap64; omega
  have wg2 : IntKind.i64.wrap (48 + x.g) = 48 + x.g := by rw [IntKind.wrap_i64]; omega
  have wg3 : IntKind.i32.wrap (48 + x.g) = 48 + x.g := by rw [IntKind.wrap_i32]; omega
  obtain ⟨s1, hs1⟩ : ∃ s, Utf8.encode (65 + x.op) = s := ⟨_, rfl⟩
  obtain ⟨s2, hs2⟩ : ∃ s, Utf8.encode (48 + x.i) = s := ⟨_, rfl⟩
  obtain ⟨s3, hs3⟩ : ∃ s, Utf8.encode (48 + x.e) = s := ⟨_, rfl⟩
  obtain ⟨s4, hs4⟩ : ∃ s, Utf8.encode (48 + x.g) = s := ⟨_, rfl⟩
  have z1 : s1.size = 1 := by rw [← hs1, enc_one _ (by omega) (by omega)]; rfl
  have z2 : s2.size = 1 := by rw [← hs2, enc_one _ (by omega) (by omega)]; rfl
  have z3 : s3.size = 1 := by rw [← hs3, enc_one _ (by omega) (by omega)]; rfl
  have z4 : s4.size = 1 := by rw [← hs4, enc_one _ (by omega) (by omega)]; rfl
  have HH : Hid (headB x = ⟨#[40]⟩ ++ s1 ++ s2 ++ s3 ++ s4) := Lib.hid (by unfold headB opB; rw [hs1, hs2, hs3, hs4])
  obtain ⟨ad, rfl, hb, m0, m1, m2, m3, m4, m5⟩ := hR.nd_at hi
  rw [hx] at m0 m1 m2 m3 m4 m5
  have l1 := add_cell m1
  have l2 := add_cell m2
  have l3 := add_cell m3
  have l4 := add_cell m4
  have l5 := add_cell m5
  have d1 : decide ((i : Int) < 0) = false := decide_eq_false (by omega)
  have d2 : decide ((n : Int) ≤ (i : Int)) = false := decide_eq_false (by omega)
  have d3 : decide (n ≤ i) = false := decide_eq_false (by omega)
  have d4 : (lev == 0) = false := by rw [beq_eq_false_iff_ne]; omega
  have lw1 : wrap64 (lev - 1) = lev - 1 := by unfold wrap64; omega
  have lw2 : IntKind.i64.wrap (lev - 1) = lev - 1 := by rw [IntKind.wrap_i64]; omega
  have hic : i ≤ c := by omega
  have HUX := Lib.hid (fun W => rUsesX_any x.op hk W)
  have HUY := Lib.hid (fun W => rUsesY_any x.op hk W)
  rw [hux] at HUX
  rw [huy] at HUY
  have HREC := Lib.hid hrec
  have HREC2 := Lib.hid hrec2
  have HB0 : Hid (Below w.heap.size w (w.alloc (.cells #[.int .i64 x.op, .int .i64 x.i, .int .i64 x.e, .int .i64 x.g, .int .i64 x.x, .int .i64 x.y] 44))) := Lib.hid ((Below.refl _ w).alloc (Nat.le_refl _) _)
  have HBX := Lib.hid (Box.made w x 44)
  have hs0 : w.heap.size < (w.alloc (.cells #[.int .i64 x.op, .int .i64 x.i, .int .i64 x.e, .int .i64 x.g, .int .i64 x.x, .int .i64 x.y] 44)).heap.size := by simp
  obtain ⟨hd, hhd⟩ : ∃ s, (⟨#[40]⟩ ++ s1 ++ s2 ++ s3 ++ s4 : ByteArray) = s := ⟨_, rfl⟩
  have z5 : hd.size = 5 := by rw [← hhd]; simp [ByteArray.size_append, z1, z2, z3, z4]; rfl
  obtain ⟨h1, hh1⟩ : ∃ s, hd ++ ta = s := ⟨_, rfl⟩
  have z6 : h1.size = 5 + ta.size := by rw [← hh1, ByteArray.size_append, z5]
  have q1 : hd.size + ta.size ≤ 9223372036854775807 := by omega
  have q2 : 5 + ta.size ≤ 9223372036854775807 := by omega
  have q3 : h1.size + 1 ≤ 9223372036854775807 := by omega
  have q4 : 5 + ta.size + 1 ≤ 9223372036854775807 := by omega
  obtain ⟨h2, hh2⟩ : ∃ s, h1 ++ tb = s := ⟨_, rfl⟩
  have z7 : h2.size = 5 + ta.size + tb.size := by rw [← hh2, ByteArray.size_append, z6]
  have q5 : h1.size + tb.size ≤ 9223372036854775807 := by omega
  have q6 : 5 + ta.size + tb.size ≤ 9223372036854775807 := by omega
  have q7 : h2.size + 1 ≤ 9223372036854775807 := by omega
  have q8 : 5 + ta.size + tb.size + 1 ≤ 9223372036854775807 := by omega
  have HRV : Hid (headB x ++ ta ++ tb ++ clB = h2 ++ ⟨#[41]⟩) := Lib.hid (by rw [HH.out, hhd, hh1, hh2]; rfl)
  rw [HRV.out]
  clear hR hx hux huy hk HH HRV hrec
  go_enter Try.func44, Try.ntmps44
  go_wp2_with fail
  clear m0 m1 m2 m3 m4 m5 l1 l2 l3 l4 l5
  have HG : Hid (∀ W, Below (w.heap.size + 1) (w.alloc (.cells #[.int .i64 x.op, .int .i64 x.i, .int .i64 x.e, .int .i64 x.g, .int .i64 x.x, .int .i64 x.y] 44)) W → Below w.heap.size w W ∧ w.heap.size + 1 ≤ W.heap.size) := Lib.hid (fun W hW => by
    have h1 : Below w.heap.size w W := ((Below.refl _ w).alloc (Nat.le_refl _) _).trans (hW.mono (by omega))
    exact ⟨h1, by have := hW.size; simpa using this⟩)
  have HS : Hid (∀ W, Below (w.heap.size + 1) (w.alloc (.cells #[.int .i64 x.op, .int .i64 x.i, .int .i64 x.e, .int .i64 x.g, .int .i64 x.x, .int .i64 x.y] 44)) W → W.cell? ⟨w.heap.size, 0, none⟩ = some (.int .i64 x.op) ∧ W.cell? ⟨w.heap.size, 4, none⟩ = some (.int .i64 x.x) ∧ W.cell? ⟨w.heap.size, 5, none⟩ = some (.int .i64 x.y) ∧ Hid (Below (w.heap.size + 1) (w.alloc (.cells #[.int .i64 x.op, .int .i64 x.i, .int .i64 x.e, .int .i64 x.g, .int .i64 x.x, .int .i64 x.y] 44)) W)) := Lib.hid (fun W hW => by
    obtain ⟨b0, b1, b2, b3, b4, b5, _⟩ := HBX.out.keep (W' := W) (hW.block _ (by omega))
    exact ⟨b0, b4, b5, Lib.hid hW⟩)
  have K1 : Hid (∀ W, Hid (Below (w.heap.size + 1) (w.alloc (.cells #[.int .i64 x.op, .int .i64 x.i, .int .i64 x.e, .int .i64 x.g, .int .i64 x.x, .int .i64 x.y] 44)) W) → Calls Try.prog 44 #[.slice (some ad) i c, .int .i64 x.x, .int .i64 (lev - 1)] W fun e W' => e = .returned (.tuple #[.string ta, .bool true]) ∧ W'.cell? ⟨w.heap.size, 0, none⟩ = some (.int .i64 x.op) ∧ W'.cell? ⟨w.heap.size, 4, none⟩ = some (.int .i64 x.x) ∧ W'.cell? ⟨w.heap.size, 5, none⟩ = some (.int .i64 x.y) ∧ Hid (Below (w.heap.size + 1) (w.alloc (.cells #[.int .i64 x.op, .int .i64 x.i, .int .i64 x.e, .int .i64 x.g, .int .i64 x.x, .int .i64 x.y] 44)) W')) := Lib.hid (fun W hW => by
    refine (HREC.out W (HG.out _ hW.out).1).mono ?_
    rintro e w' ⟨rfl, h4⟩
    exact ⟨rfl, HS.out _ (hW.out.trans (h4.mono (HG.out _ hW.out).2))⟩)
  have K2 : Hid (∀ W, Hid (Below (w.heap.size + 1) (w.alloc (.cells #[.int .i64 x.op, .int .i64 x.i, .int .i64 x.e, .int .i64 x.g, .int .i64 x.x, .int .i64 x.y] 44)) W) → Calls Try.prog 44 #[.slice (some ad) i c, .int .i64 x.y, .int .i64 (lev - 1)] W fun e W' => e = .returned (.tuple #[.string tb, .bool true]) ∧ W'.cell? ⟨w.heap.size, 0, none⟩ = some (.int .i64 x.op) ∧ W'.cell? ⟨w.heap.size, 4, none⟩ = some (.int .i64 x.x) ∧ W'.cell? ⟨w.heap.size, 5, none⟩ = some (.int .i64 x.y) ∧ Hid (Below (w.heap.size + 1) (w.alloc (.cells #[.int .i64 x.op, .int .i64 x.i, .int .i64 x.e, .int .i64 x.g, .int .i64 x.x, .int .i64 x.y] 44)) W')) := Lib.hid (fun W hW => by
    refine (HREC2.out W (HG.out _ hW.out).1).mono ?_
    rintro e w' ⟨rfl, h4⟩
    exact ⟨rfl, HS.out _ (hW.out.trans (h4.mono (HG.out _ hW.out).2))⟩)
  have HB1 : Hid (Below (w.heap.size + 1) (w.alloc (.cells #[.int .i64 x.op, .int .i64 x.i, .int .i64 x.e, .int .i64 x.g, .int .i64 x.x, .int .i64 x.y] 44)) (w.alloc (.cells #[.int .i64 x.op, .int .i64 x.i, .int .i64 x.e, .int .i64 x.g, .int .i64 x.x, .int .i64 x.y] 44))) := Lib.hid (Below.refl _ _)
  generalize w.alloc (.cells #[.int .i64 x.op, .int .i64 x.i, .int .i64 x.e, .int .i64 x.g, .int .i64 x.x, .int .i64 x.y] 44) = w0 at *
  refine (HUX.out _).mono ?_
  rintro e w1 ⟨rfl, rfl⟩
  obtain ⟨b0, b4, b5, _⟩ := HS.out _ HB1.out
  have hc6 : Hid (Below (w.heap.size + 1) w0 w0.drew) := Lib.hid HB1.out.drew
  go_wp2_with fail
  go_region_held3 (fun W => W.cell? ⟨w.heap.size, 0, none⟩ = some (.int .i64 x.op) ∧ W.cell? ⟨w.heap.size, 4, none⟩ = some (.int .i64 x.x) ∧ W.cell? ⟨w.heap.size, 5, none⟩ = some (.int .i64 x.y) ∧ Hid (Below (w.heap.size + 1) w0 W)) (first | assumption | (refine ⟨?_, ?_, ?_, ?_⟩ <;> assumption) | go_keep)
    (first
      | (go_at_call 44; refine (K1.out _ ?_).mono ?_; (first | assumption | simp [*]); rintro e Wb ⟨rfl, g0, g4, g5, g6⟩))
  go_wp2_with fail
  refine (HUY.out _).mono ?_
  rintro e w1 ⟨rfl, rfl⟩
  have hc7 : Hid (Below (w.heap.size + 1) w0 Wb.drew) := Lib.hid g6.out.drew
  clear b0 b4 b5 hc6
  go_wp2_with fail
  go_region_held3 (fun W => W.cell? ⟨w.heap.size, 0, none⟩ = some (.int .i64 x.op) ∧ W.cell? ⟨w.heap.size, 4, none⟩ = some (.int .i64 x.x) ∧ W.cell? ⟨w.heap.size, 5, none⟩ = some (.int .i64 x.y) ∧ Hid (Below (w.heap.size + 1) w0 W)) (first | assumption | (refine ⟨?_, ?_, ?_, ?_⟩ <;> assumption) | go_keep)
    (first
      | (go_at_call 44; refine (K2.out _ ?_).mono ?_; (first | assumption | simp [*]); rintro e Wc ⟨rfl, j0, j4, j5, j6⟩))
  go_wp2
  go_ret2
  exact ⟨rfl, (HG.out _ j6.out).1⟩
end Go.Proofs.Ytcbmncafmofcpaa
