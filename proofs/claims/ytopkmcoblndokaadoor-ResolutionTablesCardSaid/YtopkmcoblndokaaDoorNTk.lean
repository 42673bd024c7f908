/- Layer 6: texts joined: UOq UOr. -/
import Derived.Test.YtopkmcoblndokaaDoorNTj
import Derived.Maps.Ext
import Derived.Maps.OwnSet
import Derived.Maps.OwnOps
import Derived.Maps.RangeWalk
/- Layer 10: truth values as keys of a map; lines by their clauses; how many lines a search makes. -/
namespace Go.Proofs.Ws.rsl
open Go
theorem tsetL_out {j : Nat} : ∀ (c : List Int) (t : List Int), (∀ y ∈ c, varOf y ≠ j) → (tsetL t c).getD j 0 = t.getD j 0
  | [], _, _ => rfl
  | y :: c, t, h => by
    show (tsetL (tset t y) c).getD j 0 = _
    rw [tsetL_out c _ (fun z hz => h z (List.mem_cons_of_mem _ hz))]
    unfold tset
    have := h y List.mem_cons_self
    rw [List.getD_eq_getElem?_getD, List.getElem?_set_ne this, ← List.getD_eq_getElem?_getD]
theorem tsetL_in {x : Int} : ∀ (c : List Int) (t : List Int), c.Pairwise (fun a b => varOf a < varOf b) → x ∈ c → varOf x < t.length → tget (tsetL t c) x = x
  | [], _, _, h, _ => by cases h
  | y :: c, t, hp, hx, hl => by
    rw [List.pairwise_cons] at hp
    show (tsetL (tset t y) c).getD (varOf x) 0 = x
    rcases List.mem_cons.1 hx with rfl | hx
    · rw [tsetL_out c _ (fun z hz => by have := hp.1 z hz; omega)]
      unfold tset
      rw [List.getD_eq_getElem?_getD, List.getElem?_set_self hl]; rfl
    · exact tsetL_in c _ hp.2 hx (by rw [tset_len]; exact hl)
theorem t00_get (j : Nat) : t00.getD j 0 = 0 := by
  unfold t00
  rw [List.getD_eq_getElem?_getD, List.getElem?_replicate]
  split <;> rfl
theorem tsetL_sub {c d : List Int} (hc : ClOk 12 c) (hd : ClOk 12 d) (h : tsetL t00 c = tsetL t00 d) : ∀ x ∈ c, x ∈ d := fun x hx => by
  have h1 := hc.lits x hx
  have hv : varOf x < t00.length := by show _ < 12; unfold varOf; omega
  have e1 := tsetL_in c t00 hc.sorted hx hv
  by_cases hn : ∀ y ∈ d, varOf y ≠ varOf x
  · have e2 := tsetL_out d t00 hn
    unfold tget at e1
    rw [h, e2, t00_get] at e1
    exact absurd e1.symm h1.1
  · obtain ⟨y, hy, hyx⟩ : ∃ y, y ∈ d ∧ varOf y = varOf x := Classical.byContradiction (fun k => hn (fun y hy e => k ⟨y, hy, e⟩))
    have e2 := tsetL_in d t00 hd.sorted hy (by rw [hyx]; exact hv)
    unfold tget at e1 e2
    rw [h] at e1
    rw [hyx, e1] at e2
    rw [e2]; exact hy
theorem tsetL_inj {c d : List Int} (hc : ClOk 12 c) (hd : ClOk 12 d) (h : tsetL t00 c = tsetL t00 d) : c = d :=
  cl_ext hc hd (fun x => ⟨tsetL_sub hc hd h x, tsetL_sub hd hc h.symm x⟩)
theorem tset_small {t : List Int} (h : ∀ x ∈ t, -12 ≤ x ∧ x ≤ 12) {y : Int} (hy : -12 ≤ y ∧ y ≤ 12) : ∀ x ∈ tset t y, -12 ≤ x ∧ x ≤ 12 := fun x hx => by
  unfold tset at hx
  rcases List.mem_or_eq_of_mem_set hx with h1 | h1
  · exact h x h1
  · rw [h1]; exact hy
theorem tsetL_small : ∀ (c : List Int) (t : List Int), (∀ x ∈ t, -12 ≤ x ∧ x ≤ 12) → (∀ x ∈ c, x ≠ 0 ∧ -12 ≤ x ∧ x ≤ 12) → ∀ x ∈ tsetL t c, -12 ≤ x ∧ x ≤ 12
  | [], _, h, _ => h
  | y :: c, t, h, hc => tsetL_small c (tset t y) (tset_small h (hc y List.mem_cons_self).2) (fun x hx => hc x (List.mem_cons_of_mem _ hx))
theorem t00_small : ∀ x ∈ t00, -12 ≤ x ∧ x ≤ 12 := fun x hx => by
  have := List.eq_of_mem_replicate hx
  omega
def lnIx (s : List Ln) (c : List Int) : Option Nat := s.findIdx? (fun y => decide (y.cl = c))
theorem addLn_le (s : List Ln) (x : Ln) : (addLn s x).2.length ≤ s.length + 1 := by
  unfold addLn
  split
  · exact Nat.le_succ _
  · simp
theorem refS_len {n : Nat} {l : List (List Int)} : ∀ k V s, (refS n l k V s).2.length + 1 ≤ s.length + 2 ^ (k + 1)
  | 0, V, s => by
    unfold refS
    split
    · rename_i i _
      have := addLn_le s ⟨l.getD i [], -1, (i : Int), 0⟩
      show (addLn s _).2.length + 1 ≤ s.length + 2
      omega
    · show s.length + 1 ≤ s.length + 2; omega
  | k + 1, V, s => by
    have hp : 2 ^ (k + 1 + 1) = 2 ^ (k + 1) + 2 ^ (k + 1) := by rw [Nat.pow_succ 2 (k + 1)]; omega
    have hp1 : 2 ≤ 2 ^ (k + 1) := Nat.pow_le_pow_right (n := 2) (i := 1) (by decide) (by omega)
    have h0 := refS_len (n := n) (l := l) k (bit0 V k) s
    have h1 := fun s1 => refS_len (n := n) (l := l) k (bit1 V k) s1
    unfold refS
    split
    · rename_i i _
      have := addLn_le s ⟨l.getD i [], -1, (i : Int), 0⟩
      show (addLn s _).2.length + 1 ≤ _
      omega
    · revert h0
      cases hr : refS n l k (bit0 V k) s with
      | mk p s1 =>
        intro h0
        dsimp only at h0
        cases p with
        | none => show s1.length + 1 ≤ _; omega
        | some a =>
          dsimp only
          split
          · have h1 := h1 s1
            revert h1
            cases hr2 : refS n l k (bit1 V k) s1 with
            | mk q s2 =>
              intro h1
              dsimp only at h1
              cases q with
              | none => show s2.length + 1 ≤ _; omega
              | some b =>
                dsimp only
                split
                · have := addLn_le s2 ⟨resF n (s2.getD a ln0).cl (s2.getD b ln0).cl ((k : Int) + 1), (a : Int), (b : Int), (k : Int)⟩
                  show (addLn s2 _).2.length + 1 ≤ _
                  omega
                · show s2.length + 1 ≤ _; omega
          · show s1.length + 1 ≤ _; omega
end Go.Proofs.Ws.rsl
namespace Go.Proofs.YtopkmcoblndokaaDoor.rsl
open Go.RowKit Go.Proofs.Ws.rsl Go.Maps
set_option maxRecDepth 100000
theorem trKT : Tryd.prog.keyType 65 = true := by kernel_rfl
theorem progSize : Tryd.prog.types.size = (Tryd.prog.types.size - 1) + 1 := by kernel_rfl
theorem progLaid : laidOutB Tryd.prog = true := by kernel_rfl
theorem trLaw : Keyed Tryd.prog 65 :=
  Keyed.of_law (deep_law_laid progLaid (m := 9999) (by omega) (of_decide_eq_true (by kernel_rfl)) (by kernel_rfl) (by kernel_rfl))
theorem trCells : Tryd.prog.cellsOf 65 = 12 := by kernel_rfl
theorem intCells : Tryd.prog.cellsOf 3 = 1 := by kernel_rfl
def keyT (t : List Int) : Lit := .string (keyBytes (t.map (Lit.int .i64)))
theorem wf_small {x : Int} (h : -12 ≤ x ∧ x ≤ 12) : (Lit.int .i64 x).wf = true := WalkArith.wf_i64 (by omega)
theorem mapM_some {α β : Type} {f : α → Option β} {g : α → β} : ∀ (l : List α), (∀ a ∈ l, f a = some (g a)) → l.mapM f = some (l.map g)
  | [], _ => rfl
  | a :: l, h => by
    rw [List.mapM_cons, h a List.mem_cons_self, mapM_some l (fun b hb => h b (List.mem_cons_of_mem _ hb))]
    rfl
theorem ints_one_at (t : List Int) (i : Nat) (hi : i < t.length) : ((ints t).drop i).take 1 = [.int .i64 (t.getD i 0)] := by
  rw [← ints_drop, drop_getD t i hi]
  rfl
theorem flat12 {t : List Int} (ht : t.length = 12) : ((List.range 12).map (fun i => [Lit.int .i64 (t.getD i 0)])).flatten = t.map (Lit.int .i64) := by
  match t, ht with
  | [a0, a1, a2, a3, a4, a5, a6, a7, a8, a9, a10, a11], _ => rfl
theorem getD_small {t : List Int} (hs : ∀ x ∈ t, -12 ≤ x ∧ x ≤ 12) (i : Nat) (hi : i < t.length) : -12 ≤ t.getD i 0 ∧ t.getD i 0 ≤ 12 := hs _ (getD_mem0 hi)
theorem keyLit_one (d : Nat) (x : Int) (h : (Lit.int .i64 x).wf = true) : Tryd.prog.keyLits (d + 1) 3 [.int .i64 x] = some [.int .i64 x] := by
  unfold Program.keyLits
  simp only [Tryd.underlying3]
  rw [if_pos ⟨trivial, h⟩]
theorem key_tv {t : List Int} (ht : t.length = 12) (hs : ∀ x ∈ t, -12 ≤ x ∧ x ≤ 12) : keyOf Tryd.prog 65 (.agg (ints t).toArray) = some (keyT t) := by
  unfold keyOf
  simp only [Tryd.underlying65]
  rw [if_pos (by rw [trKT]; simp [Value.formed, Tryd.underlying65, ints, ht]; kernel_rfl), progSize]
  unfold Program.keyLits
  simp only [Tryd.underlying65, Value.cells, intCells, Nat.mul_one]
  rw [if_pos (by rw [trCells, ints_length, ht])]
  rw [mapM_some (g := fun i => [Lit.int .i64 (t.getD i 0)]) _ (fun i hi => by
    have hi2 := List.mem_range.1 hi
    rw [ints_one_at t i (by omega), keyLit_one _ _ (wf_small (getD_small hs i (by omega)))]), Option.map_some, flat12 ht]
  rfl
def keyC (c : List Int) : Lit := keyT (tsetL t00 c)
theorem key_cl {c : List Int} (hc : ClOk 12 c) : keyOf Tryd.prog 65 (.agg (ints (tsetL t00 c)).toArray) = some (keyC c) :=
  key_tv (by rw [tsetL_len]; rfl) (tsetL_small c t00 t00_small (clOk_small (Nat.le_refl _) hc).1)
theorem ints_inj {a b : List Int} (h : ints a = ints b) : a = b := by
  unfold ints at h
  exact (List.map_inj_right (fun x y e => by injection e)).1 h
theorem keyC_inj {c d : List Int} (hc : ClOk 12 c) (hd : ClOk 12 d) (h : keyC c = keyC d) : c = d := by
  have := trLaw.inj (key_cl hc) (by rw [h]; exact key_cl hd)
  injection this with h1
  exact tsetL_inj hc hd (ints_inj (by simpa using h1))
/-- the map tells each line by its clause -/
structure MapS (s : List Ln) (D : DataW Unit) : Prop where
  map : IsMap D
  has : ∀ c, ClOk 12 c → Maps.has D (keyC c) = (lnIx s c).isSome
  at_ : ∀ c i z, ClOk 12 c → lnIx s c = some i → D.atKey (keyC c) z = .lit (.int .i64 (i : Int))
theorem MapS.start : MapS [] (.map []) where
  map := ⟨[], rfl⟩
  has := fun c _ => by simp [Maps.has, lnIx]
  at_ := fun c i z _ h => by simp [lnIx] at h
theorem lnIx_snoc {s : List Ln} {x : Ln} {c : List Int} : lnIx (s ++ [x]) c = match lnIx s c with | some i => some i | none => if x.cl = c then some s.length else none := by
  unfold lnIx
  rw [List.findIdx?_append]
  cases h : s.findIdx? (fun y => decide (y.cl = c)) with
  | some i => rfl
  | none =>
    by_cases e : x.cl = c
    · simp [e]
    · simp [e]
theorem MapS.put {s : List Ln} {D : DataW Unit} (h : MapS s D) {x : Ln} (hx : ClOk 12 x.cl) (hn : lnIx s x.cl = none) : MapS (s ++ [x]) (D.put (keyC x.cl) (.lit (.int .i64 (s.length : Int)))) := by
  have hkey : WideAt.IsKeyLit (keyC x.cl) := trLaw.key (key_cl hx)
  refine ⟨h.map.put _ _, fun c hc => ?_, fun c i z hc hi => ?_⟩
  · rw [lnIx_snoc]
    by_cases e : x.cl = c
    · subst e
      rw [has_put_same h.map hkey, hn]
      simp
    · rw [has_put_other (fun e2 => e (keyC_inj hx hc e2.symm)), h.has c hc]
      cases lnIx s c with
      | some i => rfl
      | none => simp [e]
  · rw [lnIx_snoc] at hi
    by_cases e : x.cl = c
    · subst e
      rw [hn] at hi
      simp at hi
      subst hi
      exact atKey_put_same h.map hkey _ _
    · rw [atKey_put_other (fun e2 => e (keyC_inj hx hc e2.symm))]
      cases hq : lnIx s c with
      | some j =>
        rw [hq] at hi
        simp at hi
        subst hi
        exact h.at_ c j z hc hq
      | none =>
        rw [hq] at hi
        simp [e] at hi
end Go.Proofs.YtopkmcoblndokaaDoor.rsl
/- Layer 10: the search for a refutation in memory; a line is added, by the program. -/
namespace Go.Proofs.YtopkmcoblndokaaDoor.rsl
open Go.RowKit Go.Proofs.Ws.rsl Go.Maps
set_option maxRecDepth 100000
section
variable {W W' : World} {row : Option Nat}
theorem HoldsJ.grown {y : Nat} {l : List Int} (h : HoldsJ W y l) (hg : W.grownBy W' row) (hne : some y ≠ row) : HoldsJ W' y l := by
  have hl := h.lt
  obtain ⟨pad, h⟩ := h
  exact ⟨pad, (hg.block y hl hne).trans h⟩
/-- a block holds no numbers, no truth values -/
def NoInt (W : World) (row : Option Nat) : Prop := ∀ y, row = some y → ∀ cs fr, W.heap[y]? ≠ some (.cells cs 3 fr)
def NoTr (W : World) (row : Option Nat) : Prop := ∀ y, row = some y → ∀ cs fr, W.heap[y]? ≠ some (.cells cs 65 fr)
def NoRes (W : World) (row : Option Nat) : Prop := ∀ y, row = some y → ∀ cs fr, W.heap[y]? ≠ some (.cells cs 41 fr)
def NoSr (W : World) (row : Option Nat) : Prop := ∀ y, row = some y → ∀ cs fr, W.heap[y]? ≠ some (.cells cs 70 fr)
theorem OwJ.grown {base : Nat} {A : Option Addr} {L : List Int} (h : OwJ W base A L) (hg : W.grownBy W' row) (hn : NoInt W row) : OwJ W' base A L := fun h0 => by
  obtain ⟨y, e, h1, h2⟩ := h h0
  refine ⟨y, e, h1, h2.grown hg (fun e2 => ?_)⟩
  obtain ⟨pad, h3⟩ := h2
  exact hn y e2.symm _ _ h3
theorem TB.grown {p : Nat} {t : List Int} (h : TB W p t) (hg : W.grownBy W' row) (hn : NoTr W row) : TB W' p t :=
  (hg.block p h.lt (fun e => hn p e.symm _ _ h)).trans h
/-- boxes of truth values stay -/
def KeepT (W W' : World) : Prop := ∀ p t, TB W p t → TB W' p t
theorem KeepT.refl (W : World) : KeepT W W := fun _ _ h => h
theorem KeepT.trans {W'' : World} (h : KeepT W W') (k : KeepT W' W'') : KeepT W W'' := fun p t x => k p t (h p t x)
theorem KeepT.of (h : Below W.heap.size W W') : KeepT W W' := fun _ _ x => x.below h x.lt
theorem KeepT.grown (hg : W.grownBy W' row) (hn : NoTr W row) : KeepT W W' := fun _ _ x => x.grown hg hn
/-- the box of a search -/
def SBx (W : World) (g : Nat) (C LV M : Value) : Prop := W.heap[g]? = some (.cells #[C, LV, M] 70 (0, 0))
theorem SBx.c0 {g : Nat} {C LV M : Value} (h : SBx W g C LV M) : W.cell? ⟨g, 0, none⟩ = some C := by rw [Lib.cell_of_heap h]; rfl
theorem SBx.c1 {g : Nat} {C LV M : Value} (h : SBx W g C LV M) : W.cell? ⟨g, 1, none⟩ = some LV := by rw [Lib.cell_of_heap h]; rfl
theorem SBx.c2 {g : Nat} {C LV M : Value} (h : SBx W g C LV M) : W.cell? ⟨g, 2, none⟩ = some M := by rw [Lib.cell_of_heap h]; rfl
theorem SBx.free {g : Nat} {C LV M : Value} (h : SBx W g C LV M) (k : Nat) : W.frozen? ⟨g, k, none⟩ = false := Lib.frozen_of_heap h k
theorem SBx.lt {g : Nat} {C LV M : Value} (h : SBx W g C LV M) : g < W.heap.size := (Array.getElem?_eq_some_iff.1 h).1
theorem SBx.below {g B : Nat} {C LV M : Value} (h : SBx W g C LV M) (hb : Below B W W') (hg : g < B) : SBx W' g C LV M := (hb.block g hg).trans h
theorem SBx.grown {g : Nat} {C LV M : Value} (h : SBx W g C LV M) (hg : W.grownBy W' row) (hn : NoSr W row) : SBx W' g C LV M :=
  (hg.block g h.lt (fun e => hn g e.symm _ _ h)).trans h
theorem SBx.set1 {g : Nat} {C LV M : Value} (h : SBx W g C LV M) (u : Value) : SBx (W.setCell ⟨g, 1, none⟩ u) g C u M := by
  unfold SBx at *
  simp [World.setCell, Array.getElem?_modify, h]
theorem SBx.no {g : Nat} {C LV M : Value} (h : SBx W g C LV M) : NoInt W (some g) ∧ NoTr W (some g) ∧ NoRes W (some g) := by
  refine ⟨fun y e cs fr k => ?_, fun y e cs fr k => ?_, fun y e cs fr k => ?_⟩ <;>
    (injection e with e; subst e; unfold SBx at h; rw [h] at k; injection k with k; injection k with _ k2; exact absurd k2 (by decide))
theorem own_cells {base : Nat} {e : TypeId} {size n : Nat} {v : Value} {xs : List Value} (h : W.ownsRow base e size v n xs) {y : Nat} (hy : v.ownBlock = some y) : ∃ cur, W.heap[y]? = some (.cells cur e (0, 0)) := by
  rcases h.2 with ⟨rfl, _⟩ | ⟨g, cap, cur, rfl, _, h2, _⟩
  · cases hy
  · have hy : some g = some y := hy
    injection hy with hy
    subst hy
    exact ⟨cur, h2⟩
theorem own_no {base : Nat} {size n : Nat} {v : Value} {xs : List Value} (h : W.ownsRow base 41 size v n xs) : NoInt W v.ownBlock ∧ NoTr W v.ownBlock ∧ NoSr W v.ownBlock := by
  refine ⟨fun y e cs fr k => ?_, fun y e cs fr k => ?_, fun y e cs fr k => ?_⟩ <;>
    (obtain ⟨cur, h2⟩ := own_cells h e; rw [h2] at k; injection k with k; injection k with _ k2; exact absurd k2 (by decide))
theorem map_no {b : Nat} {D : DataW Unit} {n : Nat} (h : W.ownsMap Tryd.prog 65 (plainElem (H := Unit) Tryd.prog 3) b n D) : NoInt W (some b) ∧ NoTr W (some b) ∧ NoRes W (some b) ∧ NoSr W (some b) := by
  obtain ⟨es, clock, hb, _⟩ := h
  refine ⟨fun y e cs fr k => ?_, fun y e cs fr k => ?_, fun y e cs fr k => ?_, fun y e cs fr k => ?_⟩ <;>
    (injection e with e; subst e; rw [hb] at k; injection k with k; cases k)
end
def lnL (x : Ln) (Aj : Option Addr) (cj : Nat) : List Value := [.slice Aj x.cl.length cj, .int .i64 x.left, .int .i64 x.right, .int .i64 x.on]
/-- lines in a row of their own -/
def LnO (W : World) (base : Nat) (LV : Value) (s : List Ln) : Prop :=
  ∃ cs, W.ownsRow base 41 4 LV s.length cs ∧ ∀ j, j < s.length → ∃ Aj cj, cs[j * 4]? = some (.slice Aj (s.getD j ln0).cl.length cj) ∧ cs[j * 4 + 1]? = some (.int .i64 (s.getD j ln0).left) ∧ cs[j * 4 + 2]? = some (.int .i64 (s.getD j ln0).right) ∧ cs[j * 4 + 3]? = some (.int .i64 (s.getD j ln0).on) ∧ OwJ W base Aj (s.getD j ln0).cl ∧ (s.getD j ln0).cl.length ≤ cj
theorem LnO.grown {W W' : World} {row : Option Nat} {base : Nat} {LV : Value} {s : List Ln} (h : LnO W base LV s) (hg : W.grownBy W' row) (h1 : NoInt W row) (h2 : NoRes W row) : LnO W' base LV s := by
  obtain ⟨cs, h3, h4⟩ := h
  refine ⟨cs, own_keep1 h3 (fun y hy => hg.block y (h3.lt y hy).2 (fun e => ?_)), fun j hj => ?_⟩
  · obtain ⟨cur, h5⟩ := own_cells h3 hy
    exact h2 y e.symm _ _ h5
  · obtain ⟨Aj, cj, e0, e1, e2, e3, h5, h6⟩ := h4 j hj
    exact ⟨Aj, cj, e0, e1, e2, e3, h5.grown hg h1, h6⟩
theorem LnO.below {W W' : World} {base : Nat} {LV : Value} {s : List Ln} (h : LnO W base LV s) (hb : Below W.heap.size W W') : LnO W' base LV s := by
  obtain ⟨cs, h3, h4⟩ := h
  refine ⟨cs, own_keep1 h3 (fun y hy => hb.block y (h3.lt y hy).2), fun j hj => ?_⟩
  obtain ⟨Aj, cj, e0, e1, e2, e3, h5, h6⟩ := h4 j hj
  exact ⟨Aj, cj, e0, e1, e2, e3, h5.below hb, h6⟩
theorem LnO.snoc {W1 W : World} {base : Nat} {LV V : Value} {s : List Ln} {x : Ln} {Aj : Option Addr} {cj : Nat} {cs : List Value}
    (h3 : W1.ownsRow base 41 4 LV s.length cs) (h4 : ∀ j, j < s.length → ∃ Aj cj, cs[j * 4]? = some (.slice Aj (s.getD j ln0).cl.length cj) ∧ cs[j * 4 + 1]? = some (.int .i64 (s.getD j ln0).left) ∧ cs[j * 4 + 2]? = some (.int .i64 (s.getD j ln0).right) ∧ cs[j * 4 + 3]? = some (.int .i64 (s.getD j ln0).on) ∧ OwJ W1 base Aj (s.getD j ln0).cl ∧ (s.getD j ln0).cl.length ≤ cj)
    (hx : OwJ W1 base Aj x.cl) (hc : x.cl.length ≤ cj) (hg : W1.grownBy W LV.ownBlock) (hown : W.ownsRow base 41 4 V (s.length + 1) (cs ++ lnL x Aj cj)) : LnO W base V (s ++ [x]) := by
  have hn := (own_no h3).1
  have hlen : cs.length = s.length * 4 := h3.1
  refine ⟨cs ++ lnL x Aj cj, by rw [List.length_append, List.length_singleton]; exact hown, fun j hj => ?_⟩
  rw [List.length_append, List.length_singleton] at hj
  by_cases e : j = s.length
  · subst e
    rw [getL_last]
    have hr : ∀ k, k < 4 → (cs ++ lnL x Aj cj)[s.length * 4 + k]? = (lnL x Aj cj)[k]? := fun k hk => by
      rw [List.getElem?_append_right (by omega), hlen, Nat.add_sub_cancel_left]
    exact ⟨Aj, cj, (hr 0 (by decide)).trans rfl, (hr 1 (by decide)).trans rfl, (hr 2 (by decide)).trans rfl, (hr 3 (by decide)).trans rfl, hx.grown hg hn, hc⟩
  · rw [getL_app (by omega)]
    obtain ⟨Aj', cj', e0, e1, e2, e3, h5, h6⟩ := h4 j (by omega)
    have hl : ∀ k, k < 4 → (cs ++ lnL x Aj cj)[j * 4 + k]? = cs[j * 4 + k]? := fun k hk => List.getElem?_append_left (by omega)
    exact ⟨Aj', cj', (hl 0 (by decide)).trans e0, (hl 1 (by decide)).trans e1, (hl 2 (by decide)).trans e2, (hl 3 (by decide)).trans e3, h5.grown hg hn, h6⟩
theorem own_reads4 {w : World} {base : Nat} {e : TypeId} {size : Nat} {v : Value} {n : Nat} {xs : List Value} (h : w.ownsRow base e size v n xs) : ∃ A c, v = .slice A n c ∧ Reads w w.heap.size size A n xs := by
  rcases h.2 with ⟨rfl, rfl⟩ | ⟨g, cap, cur, rfl, _⟩
  · exact ⟨none, 0, rfl, Reads.of_own h⟩
  · exact ⟨_, cap, rfl, Reads.of_own h⟩
theorem LnO.slice {W : World} {base : Nat} {LV : Value} {s : List Ln} (h : LnO W base LV s) : ∃ A c, LV = .slice A s.length c := by
  obtain ⟨cs, h3, _⟩ := h
  obtain ⟨A, c, e, _⟩ := own_reads4 h3
  exact ⟨A, c, e⟩
/-- the lines as they are read -/
theorem LnO.lns {W : World} {base : Nat} {A : Option Addr} {c : Nat} {s : List Ln} (h : LnO W base (.slice A s.length c) s) (hok : ∀ i, i < s.length → ClOk 12 (s.getD i ln0).cl) : LnsR W W.heap.size A s.length s := by
  obtain ⟨cs, h3, h4⟩ := h
  refine ⟨rfl, cs, Reads.of_own h3, fun j hj => ?_⟩
  obtain ⟨Aj, cj, e0, e1, e2, e3, h5, h6⟩ := h4 j hj
  exact ⟨Aj, cj, e0, e1, e2, e3, ⟨h5.reads, by have := (hok j hj).len; unfold maxLen; omega, h6⟩⟩
theorem ownsMap_below {w w' : World} {P : Program} {t : TypeId} {R : Value → Option (DataW Unit × List MemPlace)} {B n : Nat} {D : DataW Unit} (h : w.ownsMap P t R B n D) (hb : Below w.heap.size w w') : w'.ownsMap P t R B n D := by
  have hl := h.lt
  obtain ⟨es, clock, hh, rest⟩ := h
  exact ⟨es, clock, (hb.block B hl).trans hh, rest⟩
/-- THE STATE OF A SEARCH -/
structure Srch (w0 : World) (C : Value) (g b : Nat) (s : List Ln) (W : World) : Prop where
  gb : w0.heap.size ≤ g ∧ w0.heap.size ≤ b
  ok : ∀ i, i < s.length → ClOk 12 (s.getD i ln0).cl
  below : Below w0.heap.size w0 W
  ex : ∃ LV D, SBx W g C LV (.map (some b)) ∧ W.ownsMap Tryd.prog 65 (plainElem (H := Unit) Tryd.prog 3) b s.length D ∧ MapS s D ∧ LnO W w0.heap.size LV s
theorem Srch.keep {w0 W W' : World} {C : Value} {g b : Nat} {s : List Ln} (h : Srch w0 C g b s W) (hb : Below W.heap.size W W') : Srch w0 C g b s W' := by
  obtain ⟨LV, D, h1, h2, h3, h4⟩ := h.ex
  exact ⟨h.gb, h.ok, h.below.trans (hb.mono h.below.size), LV, D, h1.below hb h1.lt, ownsMap_below h2 hb, h3, h4.below hb⟩
/-- what is known of the values of the regions of add -/
def vAd (vals : List Value) (i : Nat) (v : Value) (_ : World) : Prop := v = vals.getD i undef
theorem vAd_up {vals : List Value} : ∀ i v W W', vAd vals i v W → Below W.heap.size W W' → vAd vals i v W' := fun _ _ _ _ h _ => h
theorem step_mapUpd {ops : Array Oper} {o : Oper} {a : Act} {W : World} {K : Act → World → Prop} {Q : Exit → Act → World → Prop} {E : Prop} (hg : o.guard = none) (m x v : Operand) (ho : o.op = .mapUpdate 68 m x v)
    (b n : Nat) (D : DataW Unit) (hm : a.eval m = .map (some b)) (hown : W.ownsMap Tryd.prog 65 (plainElem (H := Unit) Tryd.prog 3) b n D) (hn : n < maxLen) (key : Value) (kl : Lit) (z : Int) (hx : a.eval x = key) (hv : a.eval v = .int .i64 z) (hkey : keyOf Tryd.prog 65 key = some kl) (hz : (Lit.int .i64 z).wf = true)
    (hK : ∀ w', w'.ownsMap Tryd.prog 65 (plainElem (H := Unit) Tryd.prog 3) b (n + 1) (D.put kl (.lit (.int .i64 z))) → W.grownBy w' (some b) → K (a.put o.dst undef) w') :
    if Region.wanted o (yielded ops a.tmps) = true then Oper.wp Tryd.prog o a W K Q else E := by
  have hw : Region.wanted o (yielded ops a.tmps) = true := by simp [Region.wanted, hg]
  rw [if_pos hw]
  obtain ⟨w', hrun, r1, r2⟩ := hown.update trLaw Tryd.underlying68 hn hkey (plainElem_int Tryd.underlying3 hz)
  unfold Oper.wp
  simp [execOp, ho, hm, hx, hv, hrun, Result.andThen]
  exact hK w' r1 r2
theorem wp_look {o : Oper} {a : Act} {W : World} {K : Act → World → Prop} {Q : Exit → Act → World → Prop} (m x : Operand) (ho : o.op = .lookup 68 m x true) (b : Nat) (key r : Value) (hm : a.eval m = .map (some b)) (hx : a.eval x = key)
    (hrun : (Instr.lookup 68 (.map (some b)) key true).run Tryd.prog W = .ok r W) (hK : K (a.put o.dst r) W) : Oper.wp Tryd.prog o a W K Q := by
  unfold Oper.wp
  simp [execOp, ho, hm, hx, hrun, Result.andThen]
  exact hK
theorem wp_loadT {o : Oper} {a : Act} {W : World} {K : Act → World → Prop} {Q : Exit → Act → World → Prop} (x : Operand) (ho : o.op = .load 65 x)
    (g : Nat) (hx : a.eval x = .pointer (some ⟨g, 0, none⟩)) (t : List Int) (ht : t.length = 12) (h : TB W g t) (hK : K (a.put o.dst (.agg (ints t).toArray)) W) : Oper.wp Tryd.prog o a W K Q :=
  wp_load_row 65 x ho g hx _ _ _ _ h Tryd.underlying65 rfl (sizeT ht) hK
/-- what the map says of a line's clause -/
theorem look_line {W : World} {b n : Nat} {D : DataW Unit} {s : List Ln} {c : List Int} (h : W.ownsMap Tryd.prog 65 (plainElem (H := Unit) Tryd.prog 3) b n D) (hM : MapS s D) (hc : ClOk 12 c) :
    ∃ z : Int, (∀ i, lnIx s c = some i → z = i) ∧ ∀ W2, W2.ownsMap Tryd.prog 65 (plainElem (H := Unit) Tryd.prog 3) b n D → (Instr.lookup 68 (.map (some b)) (.agg (ints (tsetL t00 c)).toArray) true).run Tryd.prog W2 = .ok (.tuple #[.int .i64 z, .bool (lnIx s c).isSome]) W2 := by
  have key : ∀ W2, W2.ownsMap Tryd.prog 65 (plainElem (H := Unit) Tryd.prog 3) b n D → ∃ z : Int, D.atKey (keyC c) (.lit (.int .i64 0)) = .lit (.int .i64 z) ∧ (Instr.lookup 68 (.map (some b)) (.agg (ints (tsetL t00 c)).toArray) true).run Tryd.prog W2 = .ok (.tuple #[.int .i64 z, .bool (lnIx s c).isSome]) W2 := fun W2 h2 => by
    obtain ⟨v, ps, hrun, hv⟩ := h2.look_ok trLaw Tryd.underlying68 (zeroI W2) (plainElem_int Tryd.underlying3 (by decide)) (key_cl hc)
    obtain ⟨z, rfl, hz, _⟩ := plainElem_int_inv Tryd.underlying3 hv
    exact ⟨z, congrArg Prod.fst hz, by rw [hrun, hM.has c hc]⟩
  obtain ⟨z, hz, _⟩ := key W h
  refine ⟨z, fun i hi => ?_, fun W2 h2 => ?_⟩
  · have := hM.at_ c i (.lit (.int .i64 0)) hc hi
    rw [hz] at this
    injection this with h1
    injection h1
  · obtain ⟨z2, hz2, hr⟩ := key W2 h2
    rw [hz] at hz2
    injection hz2 with h1
    injection h1 with _ h1
    rw [h1]; exact hr
end Go.Proofs.YtopkmcoblndokaaDoor.rsl
