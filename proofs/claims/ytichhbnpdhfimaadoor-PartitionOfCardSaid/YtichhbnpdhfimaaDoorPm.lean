/- Layer 3: the chapter's examples come out as they should. -/
import Derived.Test.YtichhbnpdhfimaaDoorPl
namespace Go.Proofs.YtichhbnpdhfimaaDoor
open Go.RowKit Go.Proofs.Ws
theorem Reads.step {w w' : World} {A : Option Addr} {n : Nat} {xs : List Value} (h : Reads w w.heap.size 1 A n xs) (hb : Below w.heap.size w w') : Reads w' w'.heap.size 1 A n xs := (h.below hb).more hb.size
theorem wfs_small {l : List Int} (h : ∀ x ∈ l, 0 ≤ x ∧ x < 100) : WFs l := fun i => by
  rw [List.getD_eq_getElem?_getD]
  by_cases hi : i < l.length
  · rw [List.getElem?_eq_getElem hi]
    have := h _ (List.getElem_mem hi)
    show (Lit.int .i64 l[i]).wf = true
    exact WalkArith.wf_i64 (by omega)
  · rw [List.getElem?_eq_none (by omega)]; decide
theorem ex_meet (w : World) : Calls Tryd.prog 50 #[.slice (some ⟨w.heap.size, 0, none⟩) 4 4, .slice (some ⟨w.heap.size + 1, 0, none⟩) 4 4] ((w.alloc (.cells #[.int .i64 0, .int .i64 0, .int .i64 0, .int .i64 3] 3)).alloc (.cells #[.int .i64 0, .int .i64 1, .int .i64 0, .int .i64 1] 3)) fun e w' => ∃ A c, e = .returned (.tuple #[.slice A 4 c, .int .i64 0]) ∧ Reads w' w'.heap.size 1 A 4 (ints [0, 1, 0, 3]) ∧ Below w.heap.size w w' := by
  have hB : Below w.heap.size w ((w.alloc (.cells #[.int .i64 0, .int .i64 0, .int .i64 0, .int .i64 3] 3)).alloc (.cells #[.int .i64 0, .int .i64 1, .int .i64 0, .int .i64 1] 3)) := ((Below.refl _ w).alloc (Nat.le_refl _) _).alloc (by simp) _
  have h1 : Reads ((w.alloc (.cells #[.int .i64 0, .int .i64 0, .int .i64 0, .int .i64 3] 3)).alloc (.cells #[.int .i64 0, .int .i64 1, .int .i64 0, .int .i64 1] 3)) ((w.alloc (.cells #[.int .i64 0, .int .i64 0, .int .i64 0, .int .i64 3] 3)).alloc (.cells #[.int .i64 0, .int .i64 1, .int .i64 0, .int .i64 1] 3)).heap.size 1 (some ⟨w.heap.size, 0, none⟩) 4 (ints [0, 0, 0, 3]) := ((HoldsI.made w [0, 0, 0, 3]).alloc _).reads
  have h2 : Reads ((w.alloc (.cells #[.int .i64 0, .int .i64 0, .int .i64 0, .int .i64 3] 3)).alloc (.cells #[.int .i64 0, .int .i64 1, .int .i64 0, .int .i64 1] 3)) ((w.alloc (.cells #[.int .i64 0, .int .i64 0, .int .i64 0, .int .i64 3] 3)).alloc (.cells #[.int .i64 0, .int .i64 1, .int .i64 0, .int .i64 1] 3)).heap.size 1 (some ⟨w.heap.size + 1, 0, none⟩) 4 (ints [0, 1, 0, 1]) := by
    have e : (w.alloc (.cells #[.int .i64 0, .int .i64 0, .int .i64 0, .int .i64 3] 3)).heap.size = w.heap.size + 1 := by simp
    rw [← e]
    exact (HoldsI.made (w.alloc (.cells #[.int .i64 0, .int .i64 0, .int .i64 0, .int .i64 3] 3)) [0, 1, 0, 1]).reads
  have ev : canonL [0, 0, 0, 3] [0, 1, 0, 1] = [0, 1, 0, 3] := by decide +kernel
  refine (meet_any [0, 0, 0, 3] [0, 1, 0, 1] _ _ 4 4 4 _ h1 h2 (by omega) (wfs_small (by decide)) (wfs_small (by decide)) (by decide +kernel) (by decide +kernel)).mono ?_
  rintro e w' ⟨A, c, he, hr, hb⟩
  rw [ev] at hr
  exact ⟨A, c, he, hr, hB.trans (hb.mono hB.size)⟩
theorem ex_split (w : World) : Calls Tryd.prog 52 #[.slice (some ⟨w.heap.size, 0, none⟩) 4 4, .slice (some ⟨w.heap.size + 1, 0, none⟩) 4 4] ((w.alloc (.cells #[.int .i64 0, .int .i64 0, .int .i64 0, .int .i64 3] 3)).alloc (.cells #[.int .i64 5, .int .i64 7, .int .i64 5, .int .i64 5] 3)) fun e w' => ∃ A c, e = .returned (.tuple #[.slice A 4 c, .int .i64 0]) ∧ Reads w' w'.heap.size 1 A 4 (ints [0, 1, 0, 3]) ∧ Below w.heap.size w w' := by
  have hB : Below w.heap.size w ((w.alloc (.cells #[.int .i64 0, .int .i64 0, .int .i64 0, .int .i64 3] 3)).alloc (.cells #[.int .i64 5, .int .i64 7, .int .i64 5, .int .i64 5] 3)) := ((Below.refl _ w).alloc (Nat.le_refl _) _).alloc (by simp) _
  have h1 : Reads ((w.alloc (.cells #[.int .i64 0, .int .i64 0, .int .i64 0, .int .i64 3] 3)).alloc (.cells #[.int .i64 5, .int .i64 7, .int .i64 5, .int .i64 5] 3)) ((w.alloc (.cells #[.int .i64 0, .int .i64 0, .int .i64 0, .int .i64 3] 3)).alloc (.cells #[.int .i64 5, .int .i64 7, .int .i64 5, .int .i64 5] 3)).heap.size 1 (some ⟨w.heap.size, 0, none⟩) 4 (ints [0, 0, 0, 3]) := ((HoldsI.made w [0, 0, 0, 3]).alloc _).reads
  have h2 : Reads ((w.alloc (.cells #[.int .i64 0, .int .i64 0, .int .i64 0, .int .i64 3] 3)).alloc (.cells #[.int .i64 5, .int .i64 7, .int .i64 5, .int .i64 5] 3)) ((w.alloc (.cells #[.int .i64 0, .int .i64 0, .int .i64 0, .int .i64 3] 3)).alloc (.cells #[.int .i64 5, .int .i64 7, .int .i64 5, .int .i64 5] 3)).heap.size 1 (some ⟨w.heap.size + 1, 0, none⟩) 4 (ints [5, 7, 5, 5]) := by
    have e : (w.alloc (.cells #[.int .i64 0, .int .i64 0, .int .i64 0, .int .i64 3] 3)).heap.size = w.heap.size + 1 := by simp
    rw [← e]
    exact (HoldsI.made (w.alloc (.cells #[.int .i64 0, .int .i64 0, .int .i64 0, .int .i64 3] 3)) [5, 7, 5, 5]).reads
  have ev : canonL [0, 0, 0, 3] [5, 7, 5, 5] = [0, 1, 0, 3] := by decide +kernel
  refine (split_core [0, 0, 0, 3] [5, 7, 5, 5] _ _ 4 4 4 _ h1 h2 (by unfold maxLen; omega) (wfs_small (by decide)) (wfs_small (by decide)) (by decide +kernel)).mono ?_
  rintro e w' ⟨A, c, he, hr, hb⟩
  rw [ev] at hr
  exact ⟨A, c, he, hr, hB.trans (hb.mono hB.size)⟩
theorem ex_join (w : World) : Calls Tryd.prog 51 #[.slice (some ⟨w.heap.size, 0, none⟩) 4 4, .slice (some ⟨w.heap.size + 1, 0, none⟩) 4 4] ((w.alloc (.cells #[.int .i64 0, .int .i64 0, .int .i64 0, .int .i64 3] 3)).alloc (.cells #[.int .i64 0, .int .i64 1, .int .i64 0, .int .i64 1] 3)) fun e w' => ∃ A c, e = .returned (.tuple #[.slice A 4 c, .int .i64 0]) ∧ Reads w' w'.heap.size 1 A 4 (ints [0, 0, 0, 0]) ∧ Below w.heap.size w w' := by
  have hB : Below w.heap.size w ((w.alloc (.cells #[.int .i64 0, .int .i64 0, .int .i64 0, .int .i64 3] 3)).alloc (.cells #[.int .i64 0, .int .i64 1, .int .i64 0, .int .i64 1] 3)) := ((Below.refl _ w).alloc (Nat.le_refl _) _).alloc (by simp) _
  have h1 : Reads ((w.alloc (.cells #[.int .i64 0, .int .i64 0, .int .i64 0, .int .i64 3] 3)).alloc (.cells #[.int .i64 0, .int .i64 1, .int .i64 0, .int .i64 1] 3)) ((w.alloc (.cells #[.int .i64 0, .int .i64 0, .int .i64 0, .int .i64 3] 3)).alloc (.cells #[.int .i64 0, .int .i64 1, .int .i64 0, .int .i64 1] 3)).heap.size 1 (some ⟨w.heap.size, 0, none⟩) 4 (ints [0, 0, 0, 3]) := ((HoldsI.made w [0, 0, 0, 3]).alloc _).reads
  have h2 : Reads ((w.alloc (.cells #[.int .i64 0, .int .i64 0, .int .i64 0, .int .i64 3] 3)).alloc (.cells #[.int .i64 0, .int .i64 1, .int .i64 0, .int .i64 1] 3)) ((w.alloc (.cells #[.int .i64 0, .int .i64 0, .int .i64 0, .int .i64 3] 3)).alloc (.cells #[.int .i64 0, .int .i64 1, .int .i64 0, .int .i64 1] 3)).heap.size 1 (some ⟨w.heap.size + 1, 0, none⟩) 4 (ints [0, 1, 0, 1]) := by
    have e : (w.alloc (.cells #[.int .i64 0, .int .i64 0, .int .i64 0, .int .i64 3] 3)).heap.size = w.heap.size + 1 := by simp
    rw [← e]
    exact (HoldsI.made (w.alloc (.cells #[.int .i64 0, .int .i64 0, .int .i64 0, .int .i64 3] 3)) [0, 1, 0, 1]).reads
  refine (join_any [0, 0, 0, 3] [0, 1, 0, 1] _ _ 4 4 4 _ h1 h2 (by omega) (by decide +kernel) (by decide +kernel) (by omega)).mono ?_
  rintro e w' ⟨l, hl, A, c, he, hr, hb⟩
  have f0 : root (fo l) 0 = 0 := by have := root_le hl.forest.le 0; omega
  have f1 : root (fo l) 1 = 0 := by rw [← hl.ea 1 (by omega)]; exact f0
  have f2 : root (fo l) 2 = 0 := by rw [← hl.ea 2 (by omega)]; exact f0
  have f3 : root (fo l) 3 = 0 := by rw [← hl.eb 3 (by omega)]; exact f1
  have ev : rootL l 4 = [0, 0, 0, 0] := by
    show [(root (fo l) 0 : Int), (root (fo l) 1 : Int), (root (fo l) 2 : Int), (root (fo l) 3 : Int)] = _
    rw [f0, f1, f2, f3]; rfl
  rw [ev] at hr
  exact ⟨A, c, he, hr, hB.trans (hb.mono hB.size)⟩
theorem toB_same {P : Program} {f : FuncId} {a : Array Value} {w : World} {v : Ending} (h : Calls P f a w fun e w' => e = v ∧ w = w') : Calls P f a w fun e w' => e = v ∧ Below w.heap.size w w' :=
  h.mono fun _ _ ⟨he, hw⟩ => ⟨he, hw ▸ Below.refl _ _⟩
theorem eqI_self (l : List Int) (A A2 : Option Addr) (n c c2 : Nat) (w : World) (hR : Reads w w.heap.size 1 A n (ints l)) (hR2 : Reads w w.heap.size 1 A2 n (ints l)) (hm : n ≤ 64) :
    Calls Tryd.prog 19 #[.slice A n c, .slice A2 n c2] w fun e w' => e = .returned (.bool true) ∧ Below w.heap.size w w' := by
  have h := equalI_any l l A A2 n n c c2 w.heap.size w hR hR2 (by unfold maxLen; omega) (by unfold maxLen; omega)
  rw [decide_eq_true rfl] at h
  exact toB_drew h
theorem ex_eqz (A : Option Addr) (c : Nat) (w : World) (hR : Reads w w.heap.size 1 A 4 (ints [0, 0, 0, 0])) :
    Calls Tryd.prog 19 #[.slice A 4 c, .slice (some ⟨w.heap.size, 0, none⟩) 4 4] (w.alloc (.cells #[.int .i64 0, .int .i64 0, .int .i64 0, .int .i64 0] 3)) fun e w' => e = .returned (.bool true) ∧ Below w.heap.size w w' := by
  have hB : Below w.heap.size w (w.alloc (.cells #[.int .i64 0, .int .i64 0, .int .i64 0, .int .i64 0] 3)) := (Below.refl _ w).alloc (Nat.le_refl _) _
  refine (eqI_self [0, 0, 0, 0] A (some ⟨w.heap.size, 0, none⟩) 4 c 4 _ (hR.step hB) (HoldsI.made w [0, 0, 0, 0]).reads (by omega)).mono ?_
  rintro e w' ⟨he, hb⟩
  exact ⟨he, hB.trans (hb.mono hB.size)⟩
theorem ex_eqw (A : Option Addr) (c : Nat) (w : World) (hR : Reads w w.heap.size 1 A 3 (us [5, 2, 8])) :
    Calls Tryd.prog 53 #[.slice A 3 c, .slice (some ⟨w.heap.size, 0, none⟩) 3 3] (w.alloc (.cells #[.int .u64 5, .int .u64 2, .int .u64 8] 33)) fun e w' => e = .returned (.bool true) ∧ Below w.heap.size w w' := by
  have hB : Below w.heap.size w (w.alloc (.cells #[.int .u64 5, .int .u64 2, .int .u64 8] 33)) := (Below.refl _ w).alloc (Nat.le_refl _) _
  have h := equal_any [5, 2, 8] [5, 2, 8] A (some ⟨w.heap.size, 0, none⟩) 3 3 c 3 _ (w.alloc (.cells #[.int .u64 5, .int .u64 2, .int .u64 8] 33)) (hR.step hB) (HoldsU.made w [5, 2, 8]).reads (by unfold maxLen; omega) (by unfold maxLen; omega)
  rw [decide_eq_true rfl] at h
  refine (toB_drew h).mono ?_
  rintro e w' ⟨he, hb⟩
  exact ⟨he, hB.trans (hb.mono hB.size)⟩
theorem ex_check (w : World) : Calls Tryd.prog 54 #[.slice (some ⟨w.heap.size, 0, none⟩) 3 3] (w.alloc (.cells #[.int .i64 0, .int .i64 0, .int .i64 1] 3)) fun e w' => e = .returned (.int .i64 3) ∧ Below w.heap.size w w' := by
  have hB : Below w.heap.size w (w.alloc (.cells #[.int .i64 0, .int .i64 0, .int .i64 1] 3)) := (Below.refl _ w).alloc (Nat.le_refl _) _
  have ev : partErr [0, 0, 1] = 3 := by decide +kernel
  have h := pCheck_any [0, 0, 1] (some ⟨w.heap.size, 0, none⟩) 3 3 _ (w.alloc (.cells #[.int .i64 0, .int .i64 0, .int .i64 1] 3)) (HoldsI.made w [0, 0, 1]).reads (by unfold maxLen; omega)
  rw [ev] at h
  refine (toB_same h).mono ?_
  rintro e w' ⟨he, hb⟩
  exact ⟨he, hB.trans (hb.mono hB.size)⟩
section
variable (A : Option Addr) (c : Nat) (w : World) (hR : Reads w w.heap.size 1 A 4 (ints [0, 1, 0, 3]))
include hR
theorem ex_blocks : Calls Tryd.prog 22 #[.slice A 4 c] w (GivesW [5, 2, 8] w) := by
  have ev : blocksL [0, 1, 0, 3] = [5, 2, 8] := by decide +kernel
  rw [← ev]
  exact pBlocks_any [0, 1, 0, 3] A 4 c w hR (by unfold maxLen; omega)
theorem ex_count : Calls Tryd.prog 24 #[.slice A 4 c] w fun e w' => e = .returned (.int .i64 3) ∧ Below w.heap.size w w' := by
  have ev : ((blocksL [0, 1, 0, 3]).length : Int) = 3 := by decide +kernel
  rw [← ev]
  exact pCount_any [0, 1, 0, 3] A 4 c w hR (by unfold maxLen; omega)
theorem ex_block : Calls Tryd.prog 23 #[.slice A 4 c, .int .i64 2] w fun e w' => e = .returned (.int .u64 5) ∧ Below w.heap.size w w' := by
  have ev : (blkV [0, 1, 0, 3] 2 : Int) = 5 := by decide +kernel
  rw [← ev]
  exact pBlock_any [0, 1, 0, 3] 2 A 4 c w hR (by unfold maxLen; omega)
theorem ex_refines (A2 : Option Addr) (c2 : Nat) (hR2 : Reads w w.heap.size 1 A2 4 (ints [0, 0, 0, 0])) : Calls Tryd.prog 55 #[.slice A 4 c, .slice A2 4 c2] w fun e w' => e = .returned (.bool true) ∧ Below w.heap.size w w' := by
  refine (refines_any [0, 1, 0, 3] [0, 0, 0, 0] A A2 4 c c2 w hR hR2 (by omega) (by decide +kernel) (by decide +kernel)).mono ?_
  rintro e w' ⟨⟨bb, rfl, hb⟩, hw⟩
  have : bb = true := hb.2 (by unfold RefP; decide +kernel)
  subst this
  exact ⟨rfl, hw⟩
end
set_option maxRecDepth 100000 in
set_option maxHeartbeats 4000000 in
theorem awake_any (w : World) : Calls Tryd.prog 12 #[] w fun e w' => e = .returned (.bool true) ∧ Below w.heap.size w w' := by
  obtain ⟨w0, hw0⟩ : ∃ w0, w.alloc (.cells #[.int .i64 0, .int .i64 1, .int .i64 0, .int .i64 3] 3) = w0 := ⟨_, rfl⟩
  have HB : Hid (Below w.heap.size w w0) := Lib.hid (by rw [← hw0]; exact (Below.refl _ w).alloc (Nat.le_refl _) _)
  have HR : Hid (Reads w0 w0.heap.size 1 (some ⟨w.heap.size, 0, none⟩) 4 (ints [0, 1, 0, 3])) := Lib.hid (by rw [← hw0]; exact (HoldsI.made w [0, 1, 0, 3]).reads)
  go_enter Tryd.func12, Tryd.ntmps12
  have HX := Lib.hid (ex_meet w0)
  go_wp2_with fail
  try simp only [hw0]
  clear hw0
  refine (HX.out).mono ?_
  rintro e w1 ⟨A1, c1, rfl, hr, hb⟩
  clear HX
  replace HR := Lib.hid (HR.out.step hb)
  replace HB := Lib.hid (HB.out.trans (hb.mono HB.out.size))
  have H1 := Lib.hid hr
  clear hr
  clear hb
  have HX := Lib.hid (ex_join w1)
  go_wp2_with fail
  refine (HX.out).mono ?_
  rintro e w2 ⟨A2, c2, rfl, hr, hb⟩
  clear HX
  replace HR := Lib.hid (HR.out.step hb)
  replace H1 := Lib.hid (H1.out.step hb)
  replace HB := Lib.hid (HB.out.trans (hb.mono HB.out.size))
  have H2 := Lib.hid hr
  clear hr
  clear hb
  have HX := Lib.hid (ex_split w2)
  go_wp2_with fail
  refine (HX.out).mono ?_
  rintro e w3 ⟨A3, c3, rfl, hr, hb⟩
  clear HX
  replace HR := Lib.hid (HR.out.step hb)
  replace H1 := Lib.hid (H1.out.step hb)
  replace H2 := Lib.hid (H2.out.step hb)
  replace HB := Lib.hid (HB.out.trans (hb.mono HB.out.size))
  have H3 := Lib.hid hr
  clear hr
  clear hb
  have HX := Lib.hid (ex_blocks _ 4 w3 HR.out)
  go_wp2_with fail
  refine (HX.out).mono ?_
  rintro e w4 ⟨A4, c4, rfl, hr, hb⟩
  clear HX
  replace HR := Lib.hid (HR.out.step hb)
  replace H1 := Lib.hid (H1.out.step hb)
  replace H2 := Lib.hid (H2.out.step hb)
  replace H3 := Lib.hid (H3.out.step hb)
  replace HB := Lib.hid (HB.out.trans (hb.mono HB.out.size))
  have H4 := Lib.hid hr
  clear hr
  clear hb
  have HX := Lib.hid (ex_eqw A4 c4 w4 H4.out)
  go_wp2_with fail
  refine (HX.out).mono ?_
  rintro e w5 ⟨rfl, hb⟩
  clear HX
  replace HR := Lib.hid (HR.out.step hb)
  replace H1 := Lib.hid (H1.out.step hb)
  replace H2 := Lib.hid (H2.out.step hb)
  replace H3 := Lib.hid (H3.out.step hb)
  replace H4 := Lib.hid (H4.out.step hb)
  replace HB := Lib.hid (HB.out.trans (hb.mono HB.out.size))
  clear hb
  have HX := Lib.hid (ex_check w5)
  go_wp2_with fail
  refine (HX.out).mono ?_
  rintro e w6 ⟨rfl, hb⟩
  clear HX
  replace HR := Lib.hid (HR.out.step hb)
  replace H1 := Lib.hid (H1.out.step hb)
  replace H2 := Lib.hid (H2.out.step hb)
  replace H3 := Lib.hid (H3.out.step hb)
  replace HB := Lib.hid (HB.out.trans (hb.mono HB.out.size))
  clear hb
  have HX := Lib.hid (eqI_self _ A1 _ 4 c1 4 w6 H1.out HR.out (by omega))
  go_wp2_with fail
  refine (HX.out).mono ?_
  rintro e w7 ⟨rfl, hb⟩
  clear HX
  replace HR := Lib.hid (HR.out.step hb)
  replace H1 := Lib.hid (H1.out.step hb)
  replace H2 := Lib.hid (H2.out.step hb)
  replace H3 := Lib.hid (H3.out.step hb)
  replace HB := Lib.hid (HB.out.trans (hb.mono HB.out.size))
  clear hb
  have HX := Lib.hid (ex_eqz A2 c2 w7 H2.out)
  go_wp2_with fail
  refine (HX.out).mono ?_
  rintro e w8 ⟨rfl, hb⟩
  clear HX
  replace HR := Lib.hid (HR.out.step hb)
  replace H2 := Lib.hid (H2.out.step hb)
  replace H3 := Lib.hid (H3.out.step hb)
  replace HB := Lib.hid (HB.out.trans (hb.mono HB.out.size))
  clear hb
  have HX := Lib.hid (eqI_self _ A3 _ 4 c3 4 w8 H3.out HR.out (by omega))
  go_wp2_with fail
  refine (HX.out).mono ?_
  rintro e w9 ⟨rfl, hb⟩
  clear HX
  replace HR := Lib.hid (HR.out.step hb)
  replace H2 := Lib.hid (H2.out.step hb)
  replace H3 := Lib.hid (H3.out.step hb)
  replace HB := Lib.hid (HB.out.trans (hb.mono HB.out.size))
  clear hb
  have HX := Lib.hid (ex_count _ 4 w9 HR.out)
  go_wp2_with fail
  refine (HX.out).mono ?_
  rintro e w10 ⟨rfl, hb⟩
  clear HX
  replace HR := Lib.hid (HR.out.step hb)
  replace H2 := Lib.hid (H2.out.step hb)
  replace HB := Lib.hid (HB.out.trans (hb.mono HB.out.size))
  clear hb
  have HX := Lib.hid (ex_refines _ 4 w10 HR.out A2 c2 H2.out)
  go_wp2_with fail
  refine (HX.out).mono ?_
  rintro e w11 ⟨rfl, hb⟩
  clear HX
  replace HR := Lib.hid (HR.out.step hb)
  replace H2 := Lib.hid (H2.out.step hb)
  replace HB := Lib.hid (HB.out.trans (hb.mono HB.out.size))
  clear hb
  have HX := Lib.hid (ex_block _ 4 w11 HR.out)
  go_wp2_with fail
  refine (HX.out).mono ?_
  rintro e w12 ⟨rfl, hb⟩
  clear HX
  replace HR := Lib.hid (HR.out.step hb)
  replace H2 := Lib.hid (H2.out.step hb)
  replace HB := Lib.hid (HB.out.trans (hb.mono HB.out.size))
  clear hb
  go_wp2
  go_ret
  exact ⟨rfl, HB.out⟩
end Go.Proofs.YtichhbnpdhfimaaDoor
