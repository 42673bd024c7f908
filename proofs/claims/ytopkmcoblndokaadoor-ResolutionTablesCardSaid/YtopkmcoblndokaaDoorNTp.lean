/- Layer 10: the law's awake. -/
import Derived.Test.YtopkmcoblndokaaDoorNTo
namespace Go.Proofs.Ws.rsl
open Go.Proofs.YtopkmcoblndokaaDoor.rsl
def p7 : List Ln := [⟨[1, 2], -1, 0, 0⟩, ⟨[-1, 2], -1, 1, 0⟩, ⟨[2], 0, 1, 0⟩, ⟨[1, -2], -1, 2, 0⟩, ⟨[-1, -2], -1, 3, 0⟩, ⟨[-2], 3, 4, 0⟩, ⟨[], 2, 5, 1⟩]
def p6 : List Ln := [⟨[1, 2], -1, 0, 0⟩, ⟨[-1, 2], -1, 1, 0⟩, ⟨[2], 0, 1, 0⟩, ⟨[1, -2], -1, 2, 0⟩, ⟨[-1, -2], -1, 3, 0⟩, ⟨[-2], 3, 4, 0⟩]
theorem ex_solve : slvV 2 ex3 = 3 ∧ slvE 2 ex3 = 0 ∧ modV 2 ex3 = 1 ∧ chkR 2 ex3 = 0 ∧ chkR 2 ex4 = 0 := by decide +kernel
theorem ex_norm : nL [2, -1, 2] = [-1, 2] ∧ nA [2, -1, 2] = false ∧ nE [2, -1, 2] = 0 := by decide +kernel
theorem ex_ref : reE 2 ex4 = 0 ∧ 0 < (reL 2 ex4).length ∧ (reL 2 ex4).length < 1000 ∧ verE 2 ex4 (reL 2 ex4) = 0 := by decide +kernel
theorem ex_ver : verE 2 ex4 p7 = 0 ∧ verE 2 ex4 p6 = 13 := by decide +kernel
def exU : List Int := tset (tsetL t00 [-1]) 2
theorem ex_prop : PropTo ex3 (tsetL t00 [-1]) exU 2 := by
  have h1 : ex3.findIdx? (refB (tsetL t00 [-1])) = none := by decide +kernel
  have h2 : ex3.findIdx? (fun c => unitV (tsetL t00 [-1]) c != 0) = some 0 := by decide +kernel
  have h3 : unitV (tsetL t00 [-1]) (ex3.getD 0 []) = 2 := by decide +kernel
  have h4 : ex3.findIdx? (refB exU) = some 2 := by decide +kernel
  refine .step h1 h2 ?_
  rw [h3]
  exact .conf h4
theorem ex_lits : litsT exU = [-1, 2] ∧ ppE 2 ex3 [-1] = 0 := by decide +kernel
end Go.Proofs.Ws.rsl
namespace Go.Proofs.YtopkmcoblndokaaDoor.rsl
open Go.RowKit Go.Proofs.Ws.rsl
set_option maxRecDepth 100000
theorem Tryd.infoZ : (Tryd.prog.info? 31).map (fun i => (i.zero, i.size, i.bytes)) = some (some (.slice none 0 0), 1, 24) := by kernel_rfl
theorem bl_drew (W : World) (q : Nat) : Below W.heap.size W (W.drewN q) := below_drewN (Below.refl _ _) _
theorem belowNext {w w1 w2 : World} (h : Below w.heap.size w w1) (h2 : Below w1.heap.size w1 w2) : Below w.heap.size w w2 := h.trans (h2.mono h.size)
theorem w_solve (W : World) (b : Nat) (A : Option Addr) (c : Nat) (h : ZsO W b (.slice A 3 c) ex3) : Calls Tryd.prog 9 #[.int .i64 2, .slice A 3 c] W fun e w' => e = .returned (.tuple #[.int .i64 3, .int .i64 0]) ∧ Below W.heap.size W w' := by
  have := xSolve_any 2 ex3 A 3 c W h.zs (by unfold maxLen; omega)
  rw [ex_solve.1, ex_solve.2.1] at this
  exact this
theorem w_models (W : World) (b : Nat) (A : Option Addr) (c : Nat) (h : ZsO W b (.slice A 3 c) ex3) : Calls Tryd.prog 10 #[.int .i64 2, .slice A 3 c] W fun e w' => e = .returned (.tuple #[.int .i64 1, .int .i64 0]) ∧ Below W.heap.size W w' := by
  have := xModels_any 2 ex3 A 3 c W h.zs (by unfold maxLen; omega)
  rw [ex_solve.2.2.1, ex_solve.2.2.2.1] at this
  exact this
theorem w_prop (W : World) (b g : Nat) (A : Option Addr) (c : Nat) (h : ZsO W b (.slice A 3 c) ex3) (hg : HoldsI W g [-1]) : Calls Tryd.prog 11 #[.int .i64 2, .slice A 3 c, .slice (some ⟨g, 0, none⟩) 1 1] W fun e w' => ∃ A2 c2, e = .returned (.tuple #[.slice A2 2 c2, .int .i64 2, .int .i64 0]) ∧ OwJ w' W.heap.size A2 [-1, 2] ∧ Below W.heap.size W w' := by
  refine (xPropagate_any 2 ex3 [-1] A 3 c (some ⟨g, 0, none⟩) 1 1 W h.zs (by unfold maxLen; omega) hg.reads (by unfold maxLen; omega)).mono ?_
  rintro e w' ⟨A2, c2, L, i, he, ho, _, h2, hb⟩
  obtain ⟨u, hu, rfl⟩ := h2 ex_lits.2
  obtain ⟨rfl, rfl⟩ := hu.fn ex_prop
  rw [ex_lits.2, ex_lits.1] at he
  rw [ex_lits.1] at ho
  exact ⟨A2, c2, he, ho, hb⟩
theorem w_norm (W : World) (g : Nat) (hg : HoldsI W g [2, -1, 2]) : Calls Tryd.prog 14 #[.slice (some ⟨g, 0, none⟩) 3 3] W fun e w' => ∃ A2 c2, e = .returned (.tuple #[.slice A2 2 c2, .bool false, .int .i64 0]) ∧ OwJ w' W.heap.size A2 [-1, 2] ∧ Below W.heap.size W w' := by
  refine (xNormal_any [2, -1, 2] (some ⟨g, 0, none⟩) 3 3 W hg.reads (by unfold maxLen; omega)).mono ?_
  rintro e w' ⟨A2, c2, he, ho, _, hb⟩
  rw [ex_norm.1, ex_norm.2.1, ex_norm.2.2] at he
  rw [ex_norm.1] at ho
  exact ⟨A2, c2, he, ho, hb⟩
theorem w_same (W : World) (b g : Nat) (A : Option Addr) (c : Nat) (h : OwJ W b A [-1, 2]) (hg : HoldsI W g [-1, 2]) : Calls Tryd.prog 12 #[.slice A 2 c, .slice (some ⟨g, 0, none⟩) 2 2] W fun e w' => e = .returned (.bool true) ∧ Below W.heap.size W w' := by
  refine (rSame_any [-1, 2] [-1, 2] A (some ⟨g, 0, none⟩) 2 2 c 2 W.heap.size W h.reads hg.reads (by unfold maxLen; omega) (by unfold maxLen; omega)).mono ?_
  rintro e w' ⟨rfl, q, rfl⟩
  exact ⟨by rw [decide_eq_true rfl], bl_drew W q⟩
theorem w_refute (W : World) (b : Nat) (A : Option Addr) (c : Nat) (h : ZsO W b (.slice A 4 c) ex4) : Calls Tryd.prog 13 #[.int .i64 2, .slice A 4 c] W fun e w' => ∃ A2 c2, e = .returned (.tuple #[.slice A2 (reL 2 ex4).length c2, .int .i64 0]) ∧ LnsR w' w'.heap.size A2 (reL 2 ex4).length (reL 2 ex4) ∧ Below W.heap.size W w' := by
  have := xRefute_any 2 ex4 A 4 c W h.zs (by unfold maxLen; omega)
  rw [ex_ref.1] at this
  exact this
theorem w_ver (s : List Ln) (v : Int) (hv : verE 2 ex4 s = v) (W : World) (b : Nat) (A : Option Addr) (c : Nat) (A2 : Option Addr) (k c2 : Nat) (h : ZsO W b (.slice A 4 c) ex4) (h2 : LnsR W W.heap.size A2 k s) (hk : k ≤ maxLen) : Calls Tryd.prog 15 #[.int .i64 2, .slice A 4 c, .slice A2 k c2] W fun e w' => e = .returned (.int .i64 v) ∧ Below W.heap.size W w' := by
  subst hv
  exact xVerify_any 2 ex4 s A 4 c A2 k c2 W h.zs (by unfold maxLen; omega) h2 hk
/-- one more list -/
theorem ZsO.snoc {W1 W : World} {base : Nat} {LV V : Value} {ls : List (List Int)} {vs : List Value} {x : List Int} {Aj : Option Addr} {cj : Nat}
    (h1 : W1.ownsRow base 31 1 LV ls.length vs) (h2 : ∀ j, j < ls.length → ∃ Aj cj, vs[j]? = some (.slice Aj (ls.getD j []).length cj) ∧ OwJ W1 base Aj (ls.getD j []) ∧ (ls.getD j []).length ≤ maxLen)
    (hx : OwJ W1 base Aj x) (hxl : x.length ≤ maxLen) (hg : W1.grownBy W LV.ownBlock) (hown : W.ownsRow base 31 1 V (ls.length + 1) (vs ++ [.slice Aj x.length cj])) : ZsO W base V (ls ++ [x]) := by
  have hn : NoInt W1 LV.ownBlock := fun y e cs fr k => by obtain ⟨cur, h2⟩ := own_cells h1 e; rw [h2] at k; injection k with k; injection k with _ k2; exact absurd k2 (by decide)
  have hlen : vs.length = ls.length := by have := h1.1; omega
  refine ⟨vs ++ [.slice Aj x.length cj], by rw [List.length_append, List.length_singleton]; exact hown, fun j hj => ?_⟩
  rw [List.length_append, List.length_singleton] at hj
  by_cases e : j = ls.length
  · subst e
    have e1 : (ls ++ [x]).getD ls.length [] = x := by rw [List.getD_eq_getElem?_getD, List.getElem?_append_right (Nat.le_refl _), Nat.sub_self]; rfl
    rw [e1]
    exact ⟨Aj, cj, by rw [List.getElem?_append_right (by omega), hlen, Nat.sub_self]; rfl, hx.grown hg hn, hxl⟩
  · have e1 : (ls ++ [x]).getD j [] = ls.getD j [] := by rw [List.getD_eq_getElem?_getD, List.getElem?_append_left (by omega), ← List.getD_eq_getElem?_getD]
    rw [e1]
    obtain ⟨Aj', cj', e0, h5, h6⟩ := h2 j (by omega)
    exact ⟨Aj', cj', by rw [List.getElem?_append_left (by omega)]; exact e0, h5.grown hg hn, h6⟩
theorem own_made4 (w : World) (e : TypeId) (vs rest : List Value) (n c base : Nat) (hb : base ≤ w.heap.size) (hv : vs.length = n * 4) (hr : vs.length + rest.length = c * 4) (hl : c ≤ 1000) : (w.alloc (.cells (vs ++ rest).toArray e)).ownsRow base e 4 (.slice (some ⟨w.heap.size, 0, none⟩) n c) n vs := by
  refine ⟨by omega, .inr ⟨w.heap.size, c, (vs ++ rest).toArray, rfl, hb, heap_alloc_new w _, by omega, by unfold maxLen; omega, by simp; omega, ?_⟩⟩
  simp [hv]
theorem LnO.lns2 {W : World} {base : Nat} {A : Option Addr} {n c : Nat} {s : List Ln} (h : LnO W base (.slice A n c) s) (hn : s.length = n) (hok : ∀ i, i < s.length → (s.getD i ln0).cl.length ≤ maxLen) : LnsR W W.heap.size A n s := by
  subst hn
  obtain ⟨cs, h3, h4⟩ := h
  refine ⟨rfl, cs, Reads.of_own h3, fun j hj => ?_⟩
  obtain ⟨Aj, cj, e0, e1, e2, e3, h5, h6⟩ := h4 j hj
  exact ⟨Aj, cj, e0, e1, e2, e3, ⟨h5.reads, hok j hj, h6⟩⟩
theorem small7 : ∀ i, i < p7.length → (p7.getD i ln0).cl.length ≤ maxLen := fun i hi => by
  match i, hi with
  | 0, _ => decide
  | 1, _ => decide
  | 2, _ => decide
  | 3, _ => decide
  | 4, _ => decide
  | 5, _ => decide
  | 6, _ => decide
theorem small6 : ∀ i, i < p6.length → (p6.getD i ln0).cl.length ≤ maxLen := fun i hi => by
  match i, hi with
  | 0, _ => decide
  | 1, _ => decide
  | 2, _ => decide
  | 3, _ => decide
  | 4, _ => decide
  | 5, _ => decide
theorem lit3 (w : World) (a b c : Int) : ∃ W, w.alloc (.cells #[.int .i64 a, .int .i64 b, .int .i64 c] 3) = W ∧ HoldsI W w.heap.size [a, b, c] ∧ Below w.heap.size w W ∧ W.heap.size = w.heap.size + 1 := ⟨_, rfl, HoldsI.made w [a, b, c], (Below.refl _ _).alloc (Nat.le_refl _) _, by simp⟩
theorem lines7 (w : World) : ∃ W, (((((((w.alloc (.cells #[.int .i64 1, .int .i64 2] 3)).alloc (.cells #[.int .i64 (-1), .int .i64 2] 3)).alloc (.cells #[.int .i64 2] 3)).alloc (.cells #[.int .i64 1, .int .i64 (-2)] 3)).alloc (.cells #[.int .i64 (-1), .int .i64 (-2)] 3)).alloc (.cells #[.int .i64 (-2)] 3)).alloc (.cells #[.slice (some ⟨w.heap.size, 0, none⟩) 2 2, .int .i64 (-1), .int .i64 0, .int .i64 0, .slice (some ⟨w.heap.size + 1, 0, none⟩) 2 2, .int .i64 (-1), .int .i64 1, .int .i64 0, .slice (some ⟨w.heap.size + 1 + 1, 0, none⟩) 1 1, .int .i64 0, .int .i64 1, .int .i64 0, .slice (some ⟨w.heap.size + 1 + 1 + 1, 0, none⟩) 2 2, .int .i64 (-1), .int .i64 2, .int .i64 0, .slice (some ⟨w.heap.size + 1 + 1 + 1 + 1, 0, none⟩) 2 2, .int .i64 (-1), .int .i64 3, .int .i64 0, .slice (some ⟨w.heap.size + 1 + 1 + 1 + 1 + 1, 0, none⟩) 1 1, .int .i64 3, .int .i64 4, .int .i64 0, .slice none 0 0, .int .i64 2, .int .i64 5, .int .i64 1] 41)) = W ∧ LnO W w.heap.size (.slice (some ⟨w.heap.size + 1 + 1 + 1 + 1 + 1 + 1, 0, none⟩) 7 7) p7 ∧ LnO W w.heap.size (.slice (some ⟨w.heap.size + 1 + 1 + 1 + 1 + 1 + 1, 0, none⟩) 6 7) p6 ∧ Below w.heap.size w W := by
  obtain ⟨w1, h1, d1, b1, z1⟩ := lit2 w 1 2
  obtain ⟨w2, h2, d2, b2, z2⟩ := lit2 w1 (-1) 2
  obtain ⟨w3, h3, d3, b3, z3⟩ := lit1 w2 2
  obtain ⟨w4, h4, d4, b4, z4⟩ := lit2 w3 1 (-2)
  obtain ⟨w5, h5, d5, b5, z5⟩ := lit2 w4 (-1) (-2)
  obtain ⟨w6, h6, d6, b6, z6⟩ := lit1 w5 (-2)
  rw [z1] at d2 z2
  rw [z2] at d3 z3
  rw [z3] at d4 z4
  rw [z4] at d5 z5
  rw [z5] at d6 z6
  have hb : Below w6.heap.size w6 (w6.alloc (.cells #[.slice (some ⟨w.heap.size, 0, none⟩) 2 2, .int .i64 (-1), .int .i64 0, .int .i64 0, .slice (some ⟨w.heap.size + 1, 0, none⟩) 2 2, .int .i64 (-1), .int .i64 1, .int .i64 0, .slice (some ⟨w.heap.size + 1 + 1, 0, none⟩) 1 1, .int .i64 0, .int .i64 1, .int .i64 0, .slice (some ⟨w.heap.size + 1 + 1 + 1, 0, none⟩) 2 2, .int .i64 (-1), .int .i64 2, .int .i64 0, .slice (some ⟨w.heap.size + 1 + 1 + 1 + 1, 0, none⟩) 2 2, .int .i64 (-1), .int .i64 3, .int .i64 0, .slice (some ⟨w.heap.size + 1 + 1 + 1 + 1 + 1, 0, none⟩) 1 1, .int .i64 3, .int .i64 4, .int .i64 0, .slice none 0 0, .int .i64 2, .int .i64 5, .int .i64 1] 41)) := (Below.refl _ _).alloc (Nat.le_refl _) _
  have i1 : HoldsI (w6.alloc (.cells #[.slice (some ⟨w.heap.size, 0, none⟩) 2 2, .int .i64 (-1), .int .i64 0, .int .i64 0, .slice (some ⟨w.heap.size + 1, 0, none⟩) 2 2, .int .i64 (-1), .int .i64 1, .int .i64 0, .slice (some ⟨w.heap.size + 1 + 1, 0, none⟩) 1 1, .int .i64 0, .int .i64 1, .int .i64 0, .slice (some ⟨w.heap.size + 1 + 1 + 1, 0, none⟩) 2 2, .int .i64 (-1), .int .i64 2, .int .i64 0, .slice (some ⟨w.heap.size + 1 + 1 + 1 + 1, 0, none⟩) 2 2, .int .i64 (-1), .int .i64 3, .int .i64 0, .slice (some ⟨w.heap.size + 1 + 1 + 1 + 1 + 1, 0, none⟩) 1 1, .int .i64 3, .int .i64 4, .int .i64 0, .slice none 0 0, .int .i64 2, .int .i64 5, .int .i64 1] 41)) w.heap.size [1, 2] := ((((((d1.below b2 (by omega)).below b3 (by omega)).below b4 (by omega)).below b5 (by omega)).below b6 (by omega)).below hb (by omega))
  have i2 := (((((d2.below b3 (by omega)).below b4 (by omega)).below b5 (by omega)).below b6 (by omega)).below hb (by omega))
  have i3 := ((((d3.below b4 (by omega)).below b5 (by omega)).below b6 (by omega)).below hb (by omega))
  have i4 := (((d4.below b5 (by omega)).below b6 (by omega)).below hb (by omega))
  have i5 := ((d5.below b6 (by omega)).below hb (by omega))
  have i6 := (d6.below hb (by omega))
  have hm7 := own_made4 w6 41 [.slice (some ⟨w.heap.size, 0, none⟩) 2 2, .int .i64 (-1), .int .i64 0, .int .i64 0, .slice (some ⟨w.heap.size + 1, 0, none⟩) 2 2, .int .i64 (-1), .int .i64 1, .int .i64 0, .slice (some ⟨w.heap.size + 1 + 1, 0, none⟩) 1 1, .int .i64 0, .int .i64 1, .int .i64 0, .slice (some ⟨w.heap.size + 1 + 1 + 1, 0, none⟩) 2 2, .int .i64 (-1), .int .i64 2, .int .i64 0, .slice (some ⟨w.heap.size + 1 + 1 + 1 + 1, 0, none⟩) 2 2, .int .i64 (-1), .int .i64 3, .int .i64 0, .slice (some ⟨w.heap.size + 1 + 1 + 1 + 1 + 1, 0, none⟩) 1 1, .int .i64 3, .int .i64 4, .int .i64 0, .slice none 0 0, .int .i64 2, .int .i64 5, .int .i64 1] [] 7 7 w.heap.size (by omega) rfl rfl (by decide)
  have hm6 := own_made4 w6 41 [.slice (some ⟨w.heap.size, 0, none⟩) 2 2, .int .i64 (-1), .int .i64 0, .int .i64 0, .slice (some ⟨w.heap.size + 1, 0, none⟩) 2 2, .int .i64 (-1), .int .i64 1, .int .i64 0, .slice (some ⟨w.heap.size + 1 + 1, 0, none⟩) 1 1, .int .i64 0, .int .i64 1, .int .i64 0, .slice (some ⟨w.heap.size + 1 + 1 + 1, 0, none⟩) 2 2, .int .i64 (-1), .int .i64 2, .int .i64 0, .slice (some ⟨w.heap.size + 1 + 1 + 1 + 1, 0, none⟩) 2 2, .int .i64 (-1), .int .i64 3, .int .i64 0, .slice (some ⟨w.heap.size + 1 + 1 + 1 + 1 + 1, 0, none⟩) 1 1, .int .i64 3, .int .i64 4, .int .i64 0] [.slice none 0 0, .int .i64 2, .int .i64 5, .int .i64 1] 6 7 w.heap.size (by omega) rfl rfl (by decide)
  rw [z6] at hm7 hm6
  rw [h1, h2, h3, h4, h5, h6]
  refine ⟨_, rfl, ⟨_, hm7, fun j hj => ?_⟩, ⟨_, hm6, fun j hj => ?_⟩, belowNext (belowNext (belowNext (belowNext (belowNext (belowNext b1 b2) b3) b4) b5) b6) hb⟩
  · match j, hj with
    | 0, _ => exact ⟨_, 2, rfl, rfl, rfl, rfl, i1.ow (by omega), by decide⟩
    | 1, _ => exact ⟨_, 2, rfl, rfl, rfl, rfl, i2.ow (by omega), by decide⟩
    | 2, _ => exact ⟨_, 1, rfl, rfl, rfl, rfl, i3.ow (by omega), by decide⟩
    | 3, _ => exact ⟨_, 2, rfl, rfl, rfl, rfl, i4.ow (by omega), by decide⟩
    | 4, _ => exact ⟨_, 2, rfl, rfl, rfl, rfl, i5.ow (by omega), by decide⟩
    | 5, _ => exact ⟨_, 1, rfl, rfl, rfl, rfl, i6.ow (by omega), by decide⟩
    | 6, _ => exact ⟨none, 0, rfl, rfl, rfl, rfl, OwJ.nil _ _ _, by decide⟩
  · match j, hj with
    | 0, _ => exact ⟨_, 2, rfl, rfl, rfl, rfl, i1.ow (by omega), by decide⟩
    | 1, _ => exact ⟨_, 2, rfl, rfl, rfl, rfl, i2.ow (by omega), by decide⟩
    | 2, _ => exact ⟨_, 1, rfl, rfl, rfl, rfl, i3.ow (by omega), by decide⟩
    | 3, _ => exact ⟨_, 2, rfl, rfl, rfl, rfl, i4.ow (by omega), by decide⟩
    | 4, _ => exact ⟨_, 2, rfl, rfl, rfl, rfl, i5.ow (by omega), by decide⟩
    | 5, _ => exact ⟨_, 1, rfl, rfl, rfl, rfl, i6.ow (by omega), by decide⟩
set_option maxHeartbeats 4000000 in
theorem awake_any (w : World) : Calls Tryd.prog 4 #[] w fun e w' => e = .returned (.bool true) ∧ Below w.heap.size w w' := by
  have HEX := Lib.hid xExample_any
  have HSV := Lib.hid w_solve
  have HMD := Lib.hid w_models
  have HPP := Lib.hid w_prop
  have HSM := Lib.hid w_same
  have HRF := Lib.hid w_refute
  have HNM := Lib.hid w_norm
  have HVR := Lib.hid w_ver
  have HLT := Lib.hid lit1
  have HL2 := Lib.hid lit2
  go_enter Tryd.func4, Tryd.ntmps4
  go_wp2_with fail
  refine (HEX.out w).mono ?_
  rintro e w1 ⟨A1, c1, rfl, hz1, hb1⟩
  have HZ1 := Lib.hid hz1
  have HB1 := Lib.hid hb1
  clear hz1 hb1
  go_wp2_with fail
  refine (HSV.out w1 _ A1 c1 HZ1.out).mono ?_
  rintro e w2 ⟨rfl, hb2⟩
  have HZ2 := Lib.hid (HZ1.out.below hb2)
  have HB2 := Lib.hid (belowNext HB1.out hb2)
  clear hb2 HZ1 HB1
  go_wp2_with fail
  refine (HMD.out w2 _ A1 c1 HZ2.out).mono ?_
  rintro e w3 ⟨rfl, hb3⟩
  have HZ3 := Lib.hid (HZ2.out.below hb3)
  have HB3 := Lib.hid (belowNext HB2.out hb3)
  clear hb3 HZ2 HB2
  obtain ⟨w4, e4, d4, b4, z4⟩ := HLT.out w3 (-1)
  have HE4 := Lib.hid e4
  have HD4 := Lib.hid d4
  have HZ4 := Lib.hid (HZ3.out.below b4)
  have HB4 := Lib.hid (belowNext HB3.out b4)
  clear e4 d4 b4 z4 HZ3 HB3
  go_wp2_with fail
  rw [HE4.out]
  refine (HPP.out w4 _ _ A1 c1 HZ4.out HD4.out).mono ?_
  rintro e w5 ⟨A5, c5, rfl, ho5, hb5⟩
  have HZ5 := Lib.hid (HZ4.out.below hb5)
  have HB5 := Lib.hid (belowNext HB4.out hb5)
  have HO5 := Lib.hid ho5
  clear hb5 ho5 HZ4 HB4 HE4 HD4
  obtain ⟨w6, e6, d6, b6, z6⟩ := HL2.out w5 (-1) 2
  have HE6 := Lib.hid e6
  have HD6 := Lib.hid d6
  have HZ6 := Lib.hid (HZ5.out.below b6)
  have HO6 := Lib.hid (HO5.out.below b6)
  have HB6 := Lib.hid (belowNext HB5.out b6)
  clear e6 d6 b6 z6 HZ5 HB5 HO5
  go_wp2_with fail
  rw [HE6.out]
  refine (HSM.out w6 _ _ A5 c5 HO6.out HD6.out).mono ?_
  rintro e w7 ⟨rfl, hb7⟩
  have HZ7 := Lib.hid (HZ6.out.below hb7)
  have HB7 := Lib.hid (belowNext HB6.out hb7)
  clear hb7 HZ6 HB6 HO6 HE6 HD6
  obtain ⟨w8, e8, d8, b8, z8⟩ := HL2.out w7 (-1) (-2)
  subst e8
  have HD8 := Lib.hid d8
  obtain ⟨vs8, hown8, hvr8⟩ := HZ7.out.below b8
  have HVR8 := Lib.hid hvr8
  have HB8 := Lib.hid (belowNext HB7.out b8)
  have HS8 : Hid (w.heap.size ≤ w7.heap.size) := Lib.hid HB7.out.size
  clear d8 b8 z8 hvr8 HZ7 HB7
  obtain ⟨i0, hi, hq0, hq1, hq2⟩ := info_parts Tryd.infoZ
  go_wp2_with (at_builtin; refine wpList_append_own _ rfl _ _ 24 rfl w.heap.size 31 i0 (.slice none 0 0) 1 24 Tryd.underlying24 hi hq0 hq1 hq2 rfl (by decide) _ _ _ rfl (hown8.alloc _) ⟨w7.heap.size + 1, 0, none⟩ 1 1 [.slice (some ⟨w7.heap.size, 0, none⟩) 2 2] rfl rfl ?c1 ?c2 ?c3 ?c4 ?c5 ?_)
  case c1 =>
    intro j u hj
    match j, hj with
    | 0, hj => simp at hj; subst hj; simp [Addr.add]
  case c2 => intro u hu; simp at hu; subst hu; rfl
  case c3 => unfold maxLen; decide
  case c4 => decide
  case c5 => have := HS8.out; simp; omega
  intro v' w9 hown' hgrow _
  have hba : Below (w7.alloc (.cells #[.int .i64 (-1), .int .i64 (-2)] 3)).heap.size (w7.alloc (.cells #[.int .i64 (-1), .int .i64 (-2)] 3)) ((w7.alloc (.cells #[.int .i64 (-1), .int .i64 (-2)] 3)).alloc (.cells #[.slice (some ⟨w7.heap.size, 0, none⟩) 2 2] 31)) := (Below.refl _ _).alloc (Nat.le_refl _) _
  have hz9 : ZsO w9 w.heap.size v' ex4 := ZsO.snoc (ls := ex3) (x := [-1, -2]) (Aj := some ⟨w7.heap.size, 0, none⟩) (cj := 2) (hown8.alloc _) (fun j hj => by
    obtain ⟨Aj, cj, e0, h5, h6⟩ := HVR8.out j hj
    exact ⟨Aj, cj, e0, h5.below hba, h6⟩) ((HD8.out.below hba (by simp)).ow HS8.out) (by decide) hgrow hown'
  have HB9 : Hid (Below w.heap.size w w9) := Lib.hid ((HB8.out.alloc HB8.out.size _).grown hgrow (by have := HS8.out; simp; omega) (fun j hj => (hown8.lt j hj).1))
  obtain ⟨A9, c9, rfl⟩ := hz9.slice
  have HZ9 := Lib.hid hz9
  clear hown' hgrow hba hz9 hown8 hi hq0 hq1 hq2 HVR8 HB8 HD8 HS8
  obtain ⟨w10, e10, l7, l6, b10⟩ := lines7 w9
  have HE10 := Lib.hid e10
  have HZ10 := Lib.hid (HZ9.out.below b10)
  have HB10 := Lib.hid (belowNext HB9.out b10)
  have HL7 := Lib.hid l7
  have HL6 := Lib.hid l6
  clear e10 l7 l6 b10 HZ9 HB9
  go_wp2_with fail
  rw [HE10.out]
  refine (HRF.out w10 _ A9 c9 HZ10.out).mono ?_
  rintro e w11 ⟨AR, cR, rfl, hr11, hb11⟩
  have HZ11 := Lib.hid (HZ10.out.below hb11)
  have HB11 := Lib.hid (belowNext HB10.out hb11)
  have HL7b := Lib.hid (HL7.out.below hb11)
  have HL6b := Lib.hid (HL6.out.below hb11)
  have HR11 := Lib.hid hr11
  clear hr11 hb11 HZ10 HB10 HL7 HL6 HE10
  obtain ⟨w12, e12, d12, b12, _⟩ := lit3 w11 2 (-1) 2
  have HE12 := Lib.hid e12
  have HD12 := Lib.hid d12
  have HZ12 := Lib.hid (HZ11.out.below b12)
  have HB12 := Lib.hid (belowNext HB11.out b12)
  have HL7c := Lib.hid (HL7b.out.below b12)
  have HL6c := Lib.hid (HL6b.out.below b12)
  have HR12 := Lib.hid (HR11.out.below b12 b12.size)
  clear e12 d12 b12 HZ11 HB11 HL7b HL6b HR11
  have hnr := ex_ref.2.1
  have hnr2 := ex_ref.2.2.1
  have HV3 := Lib.hid ex_ref.2.2.2
  generalize hRL : (reL 2 ex4).length = nR at *
  have q1 : decide ((0 : Int) < (nR : Int)) = true := decide_eq_true (by omega)
  have HNR : Hid (nR ≤ maxLen) := Lib.hid (by unfold maxLen; omega)
  have q2 : decide (0 < nR) = true := decide_eq_true (by omega)
  clear hnr2 hRL
  go_wp2_with fail
  rw [HE12.out]
  refine (HNM.out w12 _ HD12.out).mono ?_
  rintro e w13 ⟨AN, cN, rfl, ho13, hb13⟩
  have HO13 := Lib.hid ho13
  have HZ13 := Lib.hid (HZ12.out.below hb13)
  have HB13 := Lib.hid (belowNext HB12.out hb13)
  have HL7d := Lib.hid (HL7c.out.below hb13)
  have HL6d := Lib.hid (HL6c.out.below hb13)
  have HR13 := Lib.hid (HR12.out.below hb13 hb13.size)
  clear ho13 hb13 HZ12 HB12 HL7c HL6c HR12 HE12 HD12
  go_wp2_with fail
  refine (HVR.out p7 0 ex_ver.1 w13 _ A9 c9 _ 7 7 HZ13.out (HL7d.out.lns2 rfl small7) (by decide)).mono ?_
  rintro e w14 ⟨rfl, hb14⟩
  have HO14 := Lib.hid (HO13.out.below hb14)
  have HZ14 := Lib.hid (HZ13.out.below hb14)
  have HB14 := Lib.hid (belowNext HB13.out hb14)
  have HL6e := Lib.hid (HL6d.out.below hb14)
  have HR14 := Lib.hid (HR13.out.below hb14 hb14.size)
  clear hb14 HO13 HZ13 HB13 HL7d HL6d HR13
  go_wp2_with fail
  refine (HVR.out p6 13 ex_ver.2 w14 _ A9 c9 _ 6 7 HZ14.out (HL6e.out.lns2 rfl small6) (by decide)).mono ?_
  rintro e w15 ⟨rfl, hb15⟩
  have HO15 := Lib.hid (HO14.out.below hb15)
  have HZ15 := Lib.hid (HZ14.out.below hb15)
  have HB15 := Lib.hid (belowNext HB14.out hb15)
  have HR15 := Lib.hid (HR14.out.below hb15 hb15.size)
  clear hb15 HO14 HZ14 HB14 HL6e HR14
  go_wp2_with fail
  refine (HVR.out (reL 2 ex4) 0 HV3.out w15 _ A9 c9 AR nR cR HZ15.out HR15.out HNR.out).mono ?_
  rintro e w16 ⟨rfl, hb16⟩
  have HO16 := Lib.hid (HO15.out.below hb16)
  have HB16 := Lib.hid (belowNext HB15.out hb16)
  clear hb16 HO15 HZ15 HB15 HR15
  obtain ⟨w17, e17, d17, b17, _⟩ := HL2.out w16 (-1) 2
  have HE17 := Lib.hid e17
  have HD17 := Lib.hid d17
  have HO17 := Lib.hid (HO16.out.below b17)
  have HB17 := Lib.hid (belowNext HB16.out b17)
  clear e17 d17 b17 HO16 HB16
  go_wp2_with fail
  rw [HE17.out]
  refine (HSM.out w17 _ _ AN cN HO17.out HD17.out).mono ?_
  rintro e w18 ⟨rfl, hb18⟩
  have HB18 := Lib.hid (belowNext HB17.out hb18)
  clear hb18 HO17 HB17 HE17 HD17
  go_wp2_with fail
  go_ret
  exact ⟨rfl, HB18.out⟩
end Go.Proofs.YtopkmcoblndokaaDoor.rsl
