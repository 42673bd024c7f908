/- Contract: awake, the chapter's examples: it returns true in every world that holds the two library variables. -/
import Derived.Test.YtnkjcieeckibbaaDoorWn
import Derived.Test.YtnkjcieeckibbaaDoorWg
namespace Go.Proofs.YtnkjcieeckibbaaDoor
open Go.RowKit Go.Proofs.Ws
theorem lit_reads (w : World) (cs : List Value) : Reads (w.alloc (.cells cs.toArray 3)) (w.heap.size + 1) 1 (some ⟨w.heap.size, 0, none⟩) cs.length cs := by
  refine ⟨by simp, fun _ => ⟨_, rfl, by show w.heap.size < _; omega, fun j u hu => ?_⟩⟩
  have : (⟨w.heap.size, 0, none⟩ : Addr).add j = ⟨w.heap.size, j, none⟩ := by unfold Addr.add; split <;> simp_all
  rw [this, Lib.cell_of_heap (heap_alloc_new w _)]
  simpa using hu
theorem of_ex (w : World) : Calls Tryd.prog 16 #[.slice (some ⟨w.heap.size, 0, none⟩) 2 2] (w.alloc (.cells #[.int .i64 5, .int .i64 0] 3)) fun e w' => e = .returned (.tuple #[.int .u64 33, .int .i64 0]) ∧ w.alloc (.cells #[.int .i64 5, .int .i64 0] 3) = w' :=
  (of_any [5, 0] _ 2 2 _ _ (lit_reads w [.int .i64 5, .int .i64 0]) (by omega)).mono fun _ _ ⟨h, h'⟩ => ⟨by rw [h, show ofV [5, 0] 0 = (33, 0) from by decide +kernel]; rfl, h'⟩
theorem mem33 : mem 33 = [0, 5] := by decide +kernel
theorem rename_ex (w : World) (hT : Tab w) : Calls Tryd.prog 29 #[.int .u64 33, .slice (some ⟨w.heap.size, 0, none⟩) 6 6] (w.alloc (.cells #[.int .i64 2, .int .i64 0, .int .i64 0, .int .i64 0, .int .i64 0, .int .i64 4] 3)) fun e w' => e = .returned (.tuple #[.int .u64 20, .int .i64 0]) ∧ w.alloc (.cells #[.int .i64 2, .int .i64 0, .int .i64 0, .int .i64 0, .int .i64 0, .int .i64 4] 3) = w' :=
  (rename_any 33 [2, 0, 0, 0, 0, 4] _ 6 6 _ _ (by omega) (hT.below ((Below.refl _ _).alloc (Nat.le_refl _) _)) (lit_reads w [.int .i64 2, .int .i64 0, .int .i64 0, .int .i64 0, .int .i64 0, .int .i64 4])).mono fun _ _ ⟨h, h'⟩ => ⟨by rw [h, mem33, show renV [2, 0, 0, 0, 0, 4] [0, 5] 0 = (20, 0) from by decide +kernel]; rfl, h'⟩
theorem next_ex (w : World) (hT : Tab w) : Calls Tryd.prog 33 #[.int .i64 4, .int .u64 6] w fun e w' => e = .returned (.tuple #[.int .u64 9, .bool true]) ∧ w = w' :=
  (next_any 4 6 w (by omega) hT).mono fun _ _ ⟨h, h'⟩ => ⟨by rw [h, show nextV 4 6 = (9, true) from by decide +kernel]; rfl, h'⟩
theorem parse_ex (w : World) (hE : Env w) : Calls Tryd.prog 37 #[.string ⟨#[123, 48, 32, 53, 125]⟩] w fun e w' => e = .returned (.tuple #[.int .u64 33, .int .i64 0]) ∧ Below w.heap.size w w' :=
  (parse_any ⟨#[123, 48, 32, 53, 125]⟩ w (by decide) hE).mono fun _ _ ⟨h, h'⟩ => ⟨by rw [h, show parseV [123, 48, 32, 53, 125] = (33, 0) from by decide +kernel]; rfl, h'⟩
theorem subset_ex (w : World) : Calls Tryd.prog 35 #[.int .u64 40, .int .i64 2] w fun e w' => e = .returned (.tuple #[.int .u64 32, .bool true]) ∧ w = w' :=
  (subset_any 40 2 w (by omega) (by omega)).mono fun _ _ ⟨h, h'⟩ => ⟨by rw [h, show subV 40 2 = (32, true) from by decide +kernel]; rfl, h'⟩
theorem all_ex (w : World) : Calls Tryd.prog 18 #[.int .i64 3] w fun e w' => e = .returned (.int .u64 7) ∧ w = w' :=
  (all_any 3 w).mono fun _ _ ⟨h, h'⟩ => ⟨by rw [h, show allV 3 = 7 from by decide +kernel]; rfl, h'⟩
theorem fmt33 : fmtV 33 = [123, 48, 32, 53, 125] := by
  have h0 : Lib.decDigits 0 = [48] := by rw [Lib.decDigits]; rfl
  have h5 : Lib.decDigits 5 = [53] := by rw [Lib.decDigits]; rfl
  unfold fmtV
  rw [mem33]
  simp [fmtL, h0, h5]
theorem format_ex (w : World) (hT : Tab w) : Calls Tryd.prog 39 #[.int .u64 33] w fun e w' => e = .returned (.string ⟨#[123, 48, 32, 53, 125]⟩) ∧ Below w.heap.size w w' :=
  (format_any 33 w (by omega) hT).mono fun _ _ ⟨h, h'⟩ => ⟨by rw [h, fmt33], h'⟩
theorem count_ex (w : World) : Calls Tryd.prog 23 #[.int .u64 33] w fun e w' => e = .returned (.int .i64 2) ∧ w = w' :=
  (count_any 33 w (by omega)).mono fun _ _ ⟨h, h'⟩ => ⟨by rw [h, mem33]; rfl, h'⟩
theorem lowest_ex (w : World) (hT : Tab w) : Calls Tryd.prog 25 #[.int .u64 40] w fun e w' => e = .returned (.int .i64 3) ∧ w = w' :=
  (lowest_any 40 w (by omega) hT).mono fun _ _ ⟨h, h'⟩ => ⟨by rw [h, show lowV 40 = 3 from by decide +kernel], h'⟩
theorem has_ex (w : World) : Calls Tryd.prog 27 #[.int .u64 40, .int .i64 5] w fun e w' => e = .returned (.bool true) ∧ w = w' :=
  has_yes 40 5 w (by omega) (by decide +kernel)
theorem members_ex (w : World) (hT : Tab w) : Calls Tryd.prog 21 #[.int .u64 33] w fun e w' => ∃ A c, e = .returned (.slice A 2 c) ∧ Reads w' w'.heap.size 1 A 2 (iv [0, 5]) ∧ Below w.heap.size w w' :=
  (members_any 33 w (by omega) hT).mono fun _ _ ⟨A, c, h, hR, hb⟩ => ⟨A, c, by rw [h, mem33]; rfl, by rw [mem33] at hR; exact hR, hb⟩
theorem same_ex (w : World) (A : Option Addr) (c : Nat) (hR : Reads w w.heap.size 1 A 2 (iv [0, 5])) :
    Calls Tryd.prog 20 #[.slice A 2 c, .slice (some ⟨w.heap.size, 0, none⟩) 2 2] (w.alloc (.cells #[.int .i64 0, .int .i64 5] 3)) fun e w' => e = .returned (.bool true) ∧ Below w.heap.size w w' :=
  (same_yes [0, 5] A (some ⟨w.heap.size, 0, none⟩) c 2 _ ((hR.alloc (Nat.le_refl _) _).more (by simp)) ((lit_reads w (iv [0, 5])).more (by simp)) (by decide)).mono
    fun _ _ ⟨h, h'⟩ => ⟨h, ((Below.refl _ _).alloc (Nat.le_refl _) _).trans (h'.mono (by simp))⟩
set_option maxRecDepth 100000 in
set_option maxHeartbeats 3200000 in
theorem awake_any (w : World) (hE : Env w) :
    Calls Tryd.prog 15 #[] w fun e w' => e = .returned (.bool true) ∧ Below w.heap.size w w' := by
  have HE := Lib.hid hE
  clear hE
  go_enter Tryd.func15, Tryd.ntmps15
  go_wp2_with fail
  refine (of_ex w).mono ?_
  rintro e w1 ⟨rfl, hw⟩
  have HB1 : Hid (Below w.heap.size w w1) := Lib.hid (by rw [← hw]; exact (Below.refl _ _).alloc (Nat.le_refl _) _)
  have HE1 : Hid (Env w1) := Lib.hid (HE.out.below HB1.out)
  clear hw
  go_wp2_with fail
  refine (rename_ex w1 HE1.out.1).mono ?_
  rintro e w2 ⟨rfl, hw⟩
  have hb : Below w1.heap.size w1 w2 := by rw [← hw]; exact (Below.refl _ _).alloc (Nat.le_refl _) _
  have HB2 : Hid (Below w.heap.size w w2) := Lib.hid (HB1.out.trans (hb.mono HB1.out.size))
  have HE2 : Hid (Env w2) := Lib.hid (HE.out.below HB2.out)
  clear hw hb HE1 HB1
  go_wp2_with fail
  refine (next_ex w2 HE2.out.1).mono ?_
  rintro e w' ⟨rfl, rfl⟩
  go_wp2_with fail
  refine (parse_ex w2 HE2.out).mono ?_
  rintro e w3 ⟨rfl, hb⟩
  have HB3 : Hid (Below w.heap.size w w3) := Lib.hid (HB2.out.trans (hb.mono HB2.out.size))
  have HE3 : Hid (Env w3) := Lib.hid (HE.out.below HB3.out)
  clear hb HE2 HB2
  go_wp2_with fail
  refine (subset_ex w3).mono ?_
  rintro e w' ⟨rfl, rfl⟩
  go_wp2_with fail
  refine (all_ex w3).mono ?_
  rintro e w' ⟨rfl, rfl⟩
  go_wp2_with fail
  refine (format_ex w3 HE3.out.1).mono ?_
  rintro e w4 ⟨rfl, hb⟩
  have HB4 : Hid (Below w.heap.size w w4) := Lib.hid (HB3.out.trans (hb.mono HB3.out.size))
  have HE4 : Hid (Env w4) := Lib.hid (HE.out.below HB4.out)
  clear hb HE3 HB3
  go_wp2_with fail
  refine (count_ex w4).mono ?_
  rintro e w' ⟨rfl, rfl⟩
  go_wp2_with fail
  refine (lowest_ex w4 HE4.out.1).mono ?_
  rintro e w' ⟨rfl, rfl⟩
  go_wp2_with fail
  refine (has_ex w4).mono ?_
  rintro e w' ⟨rfl, rfl⟩
  go_wp2_with fail
  refine (members_ex w4 HE4.out.1).mono ?_
  rintro e w5 ⟨A, c, rfl, hR, hb⟩
  have HB5 : Hid (Below w.heap.size w w5) := Lib.hid (HB4.out.trans (hb.mono HB4.out.size))
  have HR := Lib.hid hR
  clear hb HE4 HB4 hR
  go_wp2_with fail
  refine (same_ex w5 A c HR.out).mono ?_
  rintro e w6 ⟨rfl, hb⟩
  have HB6 : Hid (Below w.heap.size w w6) := Lib.hid (HB5.out.trans (hb.mono HB5.out.size))
  clear hb
  go_wp2
  go_ret
  exact ⟨rfl, HB6.out⟩
end Go.Proofs.YtnkjcieeckibbaaDoor
