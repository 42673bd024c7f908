/- Layer 2: the chapter's examples come out as they should. -/
import Derived.Test.YtogjbghieoifjaaDoorRu
import Derived.Test.YtogjbghieoifjaaDoorRy
namespace Go.Proofs.YtogjbghieoifjaaDoor
open Go.RowKit Go.Proofs.Ws
theorem Reads.step {w w' : World} {A : Option Addr} {n : Nat} {xs : List Value} (h : Reads w w.heap.size 1 A n xs) (hb : Below w.heap.size w w') : Reads w' w'.heap.size 1 A n xs := (h.below hb).more hb.size
def rr : List Nat := [2, 4, 0]
theorem rr_words : Words rr := by intro x hx; unfold rr at hx; simp at hx; omega
theorem rr_len : rr.length = 3 := rfl
theorem rr_err : relErr (3 : Nat) rr = 0 := by decide +kernel
theorem rr_err' : relErr rr.length rr = 0 := by decide +kernel
theorem rr_sh : Sh 3 rr := ⟨rfl, by intro x hx; unfold rr at hx; simp at hx; omega⟩
section
variable (A : Option Addr) (c : Nat) (w : World) (hR : Reads w w.heap.size 1 A 3 (us rr)) (hT : Tab w)
include hR
theorem ex_compose (hT : Tab w) : Calls Tryd.prog 17 #[.slice A 3 c, .slice A 3 c] w (GivesR [4, 0, 0] w) := by
  have ev : composeV rr rr = [4, 0, 0] := by decide +kernel
  have t : twoErr rr rr = 0 := by decide +kernel
  refine (compose_any rr rr A A 3 3 c c w hR hR rr_words rr_words (by unfold maxLen; omega) (by unfold maxLen; omega) hT).mono ?_
  rintro e w' (⟨_, h⟩ | ⟨h, _⟩)
  · rw [← ev]; exact h
  · exact absurd t h
theorem ex_converse (hT : Tab w) : Calls Tryd.prog 24 #[.slice A 3 c] w (GivesR [0, 1, 2] w) := by
  have ev : convV rr = [0, 1, 2] := by decide +kernel
  refine (converse_any rr A 3 c w hR rr_words (by unfold maxLen; omega) hT).mono ?_
  rintro e w' (⟨_, h⟩ | ⟨h, _⟩)
  · rw [← ev]; exact h
  · exact absurd rr_err' h
theorem ex_transitive (hT : Tab w) : Calls Tryd.prog 41 #[.slice A 3 c] w (GivesR [6, 4, 0] w) := by
  have k : IsClo 3 PTrans rr [6, 4, 0] := by
    have h1 := (Mid.start (P := PTrans) rr_sh).next (transL_steps 3 (by omega))
    have e1 : run transL rr 3 = [6, 4, 0] := by decide +kernel
    rw [e1] at h1
    exact h1.done (transL_steps 3 (by omega)) (by decide +kernel)
  refine (relTransitive_any rr A 3 c w hR rr_words (by unfold maxLen; omega) hT).mono ?_
  rintro e w' (⟨_, C, hC, h⟩ | ⟨h, _⟩)
  · rw [k.unique hC]; exact h
  · exact absurd rr_err' h
theorem ex_euclidean (hT : Tab w) : Calls Tryd.prog 42 #[.slice A 3 c] w (GivesR [2, 6, 6] w) := by
  have k : IsClo 3 PEucl rr [2, 6, 6] := by
    have h1 := ((Mid.start (P := PEucl) rr_sh).next (euclL_steps 3)).next (euclL_steps 3)
    have e1 : run (fun l k => euclL l k 3) (run (fun l k => euclL l k 3) rr 3) 3 = [2, 6, 6] := by decide +kernel
    rw [e1] at h1
    exact h1.done (euclL_steps 3) (by decide +kernel)
  refine (relEuclidean_any rr A 3 c w hR rr_words (by unfold maxLen; omega) hT).mono ?_
  rintro e w' (⟨_, C, hC, h⟩ | ⟨h, _⟩)
  · rw [k.unique hC]; exact h
  · exact absurd rr_err' h
theorem ex_symmetric (hT : Tab w) : Calls Tryd.prog 43 #[.slice A 3 c] w (GivesR [2, 5, 2] w) := by
  have ev : symV rr = [2, 5, 2] := by decide +kernel
  refine (relSymmetric_any rr A 3 c w hR rr_words (by unfold maxLen; omega) hT).mono ?_
  rintro e w' (⟨_, C, hC, h⟩ | ⟨h, _⟩)
  · rw [← ev, (symV_clo rr rr_sh).unique hC]; exact h
  · exact absurd rr_err' h
theorem ex_path (hT : Tab w) : Calls Tryd.prog 37 #[.slice A 3 c, .int .u64 1, .int .u64 4] w (GivesI [0, 1, 2] w) := by
  have k : PathIs rr 3 1 4 [0, 1, 2] := .inr (.inr ⟨rr_err, 1, by omega, by decide +kernel, by decide +kernel, by decide +kernel⟩)
  refine (path_any rr 1 4 A 3 c w hR rr_words (by unfold maxLen; omega) (by omega) (by omega) hT).mono ?_
  rintro e w' ⟨p, hp, h⟩
  rw [k.unique hp]; exact h
theorem ex_path0 (hT : Tab w) : Calls Tryd.prog 37 #[.slice A 3 c, .int .u64 4, .int .u64 7] w (GivesI [] w) := by
  have k : PathIs rr 3 4 7 [] := .inr (.inl ⟨rr_err, by decide +kernel, rfl⟩)
  refine (path_any rr 4 7 A 3 c w hR rr_words (by unfold maxLen; omega) (by omega) (by omega) hT).mono ?_
  rintro e w' ⟨p, hp, h⟩
  rw [k.unique hp]; exact h
theorem ex_box : Calls Tryd.prog 31 #[.slice A 3 c, .int .u64 4] w fun e w' => e = .returned (.int .u64 6) ∧ Below w.heap.size w w' := by
  have ev : whV (pBox 4) rr = 6 := by decide +kernel
  refine (box_any rr 4 A 3 c w hR rr_words (by unfold maxLen; omega) (by omega)).mono ?_
  rintro e w' ⟨rfl, h⟩
  rw [ev]; exact ⟨rfl, h⟩
theorem ex_dia : Calls Tryd.prog 33 #[.slice A 3 c, .int .u64 4] w fun e w' => e = .returned (.int .u64 2) ∧ Below w.heap.size w w' := by
  have ev : whV (pDia 4) rr = 2 := by decide +kernel
  refine (dia_any rr 4 A 3 c w hR rr_words (by unfold maxLen; omega) (by omega)).mono ?_
  rintro e w' ⟨rfl, h⟩
  rw [ev]; exact ⟨rfl, h⟩
theorem ex_reach (hT : Tab w) : Calls Tryd.prog 35 #[.slice A 3 c, .int .u64 1] w fun e w' => e = .returned (.int .u64 6) ∧ Below w.heap.size w w' := by
  have ev : reachV rr 1 = 6 := by decide +kernel
  refine (reach_any rr 1 A 3 c w hR rr_words (by unfold maxLen; omega) (by omega) hT).mono ?_
  rintro e w' ⟨rfl, h⟩
  rw [ev]; exact ⟨rfl, h⟩
theorem ex_check : Calls Tryd.prog 13 #[.int .i64 2, .slice A 3 c] w fun e w' => e = .returned (.int .i64 3) ∧ w = w' := by
  have ev : relErr 2 rr = 3 := by decide +kernel
  refine (check_any 2 rr A 3 c _ w hR rr_words (by unfold maxLen; omega)).mono ?_
  rintro e w' ⟨rfl, h⟩
  rw [ev]; exact ⟨rfl, h⟩
end
theorem ex_check1 (w : World) : Calls Tryd.prog 13 #[.int .i64 1, .slice (some ⟨w.heap.size, 0, none⟩) 1 1] (w.alloc (.cells #[.int .u64 2] 34)) fun e w' => e = .returned (.int .i64 1) ∧ w.alloc (.cells #[.int .u64 2] 34) = w' := by
  have ev : relErr 1 [2] = 1 := by decide +kernel
  refine (check_any 1 [2] (some ⟨w.heap.size, 0, none⟩) 1 1 _ (w.alloc (.cells #[.int .u64 2] 34)) (HoldsU.made w [2]).reads (by intro x hx; simp at hx; omega) (by unfold maxLen; omega)).mono ?_
  rintro e w' ⟨rfl, h⟩
  rw [ev]; exact ⟨rfl, h⟩
theorem ex_has (A : Option Addr) (c : Nat) (w : World) (hR : Reads w w.heap.size 1 A 3 (us [6, 4, 0])) (hT : Tab w) :
    Calls Tryd.prog 15 #[.slice A 3 c, .int .i64 4] w fun e w' => e = .returned (.bool true) ∧ Below w.heap.size w w' := by
  have k : PTrans [6, 4, 0] := by
    have h1 := ((transL_steps 3 (by omega)).run_fixed (l := [6, 4, 0]) ⟨rfl, by intro x hx; simp at hx; omega⟩).1 (by decide +kernel)
    exact h1
  have e0 : relErr (3 : Nat) [6, 4, 0] = 0 := by decide +kernel
  refine (has_any [6, 4, 0] A 3 c 4 w hR (by intro x hx; simp at hx; omega) (by unfold maxLen; omega) hT).mono ?_
  rintro e w' ⟨b, rfl, hb, h⟩
  have : b = true := hb.2 ⟨e0, (hasP4 3 _).2 k⟩
  subst this
  exact ⟨rfl, h⟩
theorem is_any (x y z : Nat) (A : Option Addr) (c : Nat) (w : World) (hR : Reads w w.heap.size 1 A 3 (us [x, y, z])) :
    Calls Tryd.prog 44 #[.slice A 3 c, .slice (some ⟨w.heap.size, 0, none⟩) 3 3] (w.alloc (.cells #[.int .u64 x, .int .u64 y, .int .u64 z] 34)) fun e w' => e = .returned (.bool true) ∧ Below w.heap.size w w' := by
  have HB : Hid (Below w.heap.size w (w.alloc (.cells #[.int .u64 x, .int .u64 y, .int .u64 z] 34))) := Lib.hid ((Below.refl _ w).alloc (Nat.le_refl _) _)
  have HC := Lib.hid (same_any [x, y, z] [x, y, z] A (some ⟨w.heap.size, 0, none⟩) 3 3 c 3 _ (w.alloc (.cells #[.int .u64 x, .int .u64 y, .int .u64 z] 34)) (hR.step HB.out) (HoldsU.made w [x, y, z]).reads (by unfold maxLen; omega) (by unfold maxLen; omega))
  rw [decide_eq_true rfl] at HC
  clear hR
  go_enter Tryd.func44, Tryd.ntmps44
  go_wp2_with fail
  refine (HC.out).mono ?_
  rintro e w' ⟨rfl, q, rfl⟩
  go_wp2
  go_ret
  exact ⟨rfl, below_drewN HB.out q⟩
end Go.Proofs.YtogjbghieoifjaaDoor
