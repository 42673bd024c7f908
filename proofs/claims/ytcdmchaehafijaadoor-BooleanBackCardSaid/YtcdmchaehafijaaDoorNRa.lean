/- Layer 6: texts joined: Ga Gb Gc. -/
import Derived.Test.YtcdmchaehafijaaDoorNJg
import Derived.Test.YtcdmchaehafijaaDoorNQp
/- Layer 8: the program's builder: a list of nodes and a map from the nodes to their places. -/
namespace Go.Proofs.YtcdmchaehafijaaDoor
open Go.RowKit Go.Proofs.Ws Go.Maps
set_option maxRecDepth 100000
/-- the builder at block bw: the list (a row of its own), the map in block bm -/
structure BW (W : World) (base bw bm : Nat) (o : List Nd) : Prop where
  lw : bw < base
  lm : bm < base
  n2 : bw ≠ bm
  lb : base ≤ W.heap.size
  out : ∃ A2 c2, W.cell? ⟨bw, 0, none⟩ = some (.slice A2 o.length c2) ∧ W.ownsRow base 53 6 (.slice A2 o.length c2) o.length (nds o)
  fout : W.frozen? ⟨bw, 0, none⟩ = false
  mp : W.cell? ⟨bw, 1, none⟩ = some (.map (some bm))
  map : ∃ D, W.ownsMap Tryd.prog 53 (plainElem (H := Unit) Tryd.prog 3) bm o.length D ∧ MapOf o D
def rowB (W : World) (bw : Nat) : Option Nat := match W.cell? ⟨bw, 0, none⟩ with | some v => v.ownBlock | none => none
theorem rowB_of {W : World} {bw : Nat} {v : Value} (h : W.cell? ⟨bw, 0, none⟩ = some v) : rowB W bw = v.ownBlock := by unfold rowB; rw [h]
theorem rowB_same {w w' : World} {bw : Nat} (h : w'.heap[bw]? = w.heap[bw]?) : rowB w' bw = rowB w bw := by unfold rowB; rw [World.cell?_of_block (a := ⟨bw, 0, none⟩) h]
/-- what a step of the builder leaves -/
structure Fb (bw bm : Nat) (w w' : World) : Prop where
  os : w'.os = w.os
  tape : w'.tape = w.tape
  output : w'.output = w.output
  size : w.heap.size ≤ w'.heap.size
  block : ∀ g, g < w.heap.size → g ≠ bw → g ≠ bm → some g ≠ rowB w bw → w'.heap[g]? = w.heap[g]?
  row : rowB w' bw = rowB w bw ∨ ∃ g, rowB w' bw = some g ∧ w.heap.size ≤ g
theorem Fb.of_below {w w' : World} {bw bm : Nat} (h : Below w.heap.size w w') (hb : bw < w.heap.size) : Fb bw bm w w' :=
  ⟨h.os, h.tape, h.output, h.size, fun g hg _ _ _ => h.block g hg, .inl (rowB_same (h.block bw hb))⟩
theorem Fb.refl {w : World} {bw bm : Nat} : Fb bw bm w w := ⟨rfl, rfl, rfl, Nat.le_refl _, fun _ _ _ _ _ => rfl, .inl rfl⟩
theorem Fb.trans {a b c : World} {bw bm : Nat} (h : Fb bw bm a b) (k : Fb bw bm b c) : Fb bw bm a c := by
  refine ⟨k.os.trans h.os, k.tape.trans h.tape, k.output.trans h.output, Nat.le_trans h.size k.size, fun g hg h1 h3 h4 => ?_, ?_⟩
  · refine (k.block g (Nat.lt_of_lt_of_le hg h.size) h1 h3 ?_).trans (h.block g hg h1 h3 h4)
    rcases h.row with e | ⟨g2, e, hl⟩
    · rw [e]; exact h4
    · rw [e]; intro e2; injection e2; omega
  · rcases k.row with e | ⟨g2, e, hl⟩
    · rw [e]; exact h.row
    · exact .inr ⟨g2, e, Nat.le_trans h.size hl⟩
theorem Fb.low {bw bm : Nat} {w w' : World} (h : Fb bw bm w w') {B : Nat} (h0 : B ≤ w.heap.size) (h1 : B ≤ bw) (h4 : B ≤ bm) (h3 : ∀ g, rowB w bw = some g → B ≤ g) : Below B w w' :=
  ⟨h.os, h.tape, h.output, h.size, fun g hg => h.block g (by omega) (by omega) (by omega) (fun e => by have := h3 g e.symm; omega)⟩
theorem Fb.other {bw bm : Nat} {w W : World} (h : Fb bw bm w W) {g j : Nat} (v : Value) (h1 : w.heap.size ≤ g) (h2 : g ≠ bw) : Fb bw bm w (W.setCell ⟨g, j, none⟩ v) := by
  refine ⟨h.os, h.tape, h.output, by simpa using h.size, fun k hk a c d => (Below.heap_setCell _ _ _ _ (by show k ≠ g; omega)).trans (h.block k hk a c d), ?_⟩
  rw [rowB_same (Below.heap_setCell W ⟨g, j, none⟩ v bw h2.symm)]; exact h.row
theorem Fb.drewN {bw bm : Nat} {w W : World} (h : Fb bw bm w W) (k : Nat) : Fb bw bm w (W.drewN k) :=
  ⟨h.os, h.tape, h.output, h.size, h.block, h.row⟩
theorem BW.row {W : World} {base bw bm : Nat} {o : List Nd} (h : BW W base bw bm o) : ∀ g, rowB W bw = some g → base ≤ g ∧ g < W.heap.size := by
  obtain ⟨A2, c2, h1, h2⟩ := h.out
  intro g hg
  rw [rowB_of h1] at hg
  exact h2.lt g hg
theorem BW.keep {W W' : World} {base bw bm : Nat} {o : List Nd} (h : BW W base bw bm o) (hs : W.heap.size ≤ W'.heap.size) (hw : W'.heap[bw]? = W.heap[bw]?) (hm : W'.heap[bm]? = W.heap[bm]?)
    (hr : ∀ g, rowB W bw = some g → W'.heap[g]? = W.heap[g]?) : BW W' base bw bm o := by
  obtain ⟨A2, c2, h1, h2⟩ := h.out
  obtain ⟨D, h5, h6⟩ := h.map
  have e : ∀ j, W'.cell? ⟨bw, j, none⟩ = W.cell? ⟨bw, j, none⟩ := fun j => World.cell?_of_block (a := ⟨bw, j, none⟩) hw
  exact ⟨h.lw, h.lm, h.n2, Nat.le_trans h.lb hs, ⟨A2, c2, (e 0).trans h1, own_keep1 h2 (fun g hg => hr g (by rw [rowB_of h1]; exact hg))⟩,
    (World.frozen?_of_block (a := ⟨bw, 0, none⟩) hw).trans h.fout, (e 1).trans h.mp, ⟨D, ownsMap_keep h5 hm, h6⟩⟩
theorem BW.below {W W' : World} {base bw bm : Nat} {o : List Nd} (h : BW W base bw bm o) (hb : Below W.heap.size W W') : BW W' base bw bm o := by
  have lw := h.lw
  have lm := h.lm
  have lb := h.lb
  exact h.keep hb.size (hb.block _ (by omega)) (hb.block _ (by omega)) (fun g hg => hb.block g (h.row g hg).2)
theorem BW.drewN {W : World} {base bw bm : Nat} {o : List Nd} (h : BW W base bw bm o) (k : Nat) : BW (W.drewN k) base bw bm o :=
  h.keep (Nat.le_refl _) rfl rfl (fun _ _ => rfl)
/-- a block that is no part of the builder -/
structure AsideB (W : World) (bw bm g : Nat) : Prop where
  lt : g < W.heap.size
  n1 : g ≠ bw
  n3 : g ≠ bm
  row : some g ≠ rowB W bw
theorem AsideB.step {W W' : World} {bw bm g : Nat} (h : AsideB W bw bm g) (hF : Fb bw bm W W') : W'.heap[g]? = W.heap[g]? ∧ AsideB W' bw bm g := by
  refine ⟨hF.block g h.lt h.n1 h.n3 h.row, Nat.lt_of_lt_of_le h.lt hF.size, h.n1, h.n3, ?_⟩
  rcases hF.row with e | ⟨k, e, hl⟩
  · rw [e]; exact h.row
  · rw [e]; intro e2; injection e2; have := h.lt; omega
theorem AsideB.low {W W' : World} {bw bm g : Nat} (h : AsideB W bw bm g) (hb : Below W.heap.size W W') (hw : bw < W.heap.size) : AsideB W' bw bm g :=
  ⟨Nat.lt_of_lt_of_le h.lt hb.size, h.n1, h.n3, by rw [rowB_same (hb.block bw hw)]; exact h.row⟩
theorem AsideB.new {W W' : World} {base bw bm g : Nat} {o : List Nd} (hS : BW W base bw bm o) (hb : Below W.heap.size W W') (h1 : W.heap.size ≤ g) (h2 : g < W'.heap.size) : AsideB W' bw bm g := by
  have lw := hS.lw
  have lm := hS.lm
  have lb := hS.lb
  refine ⟨h2, by omega, by omega, ?_⟩
  rw [rowB_same (hb.block bw (by omega))]
  intro e
  have := (hS.row g e.symm).2
  omega
theorem AsideB.set {W : World} {bw bm g g2 j : Nat} (h : AsideB W bw bm g) (hg : g2 ≠ bw) (v : Value) : AsideB (W.setCell ⟨g2, j, none⟩ v) bw bm g :=
  ⟨by simpa using h.lt, h.n1, h.n3, by rw [rowB_same (Below.heap_setCell W ⟨g2, j, none⟩ v bw hg.symm)]; exact h.row⟩
theorem AsideB.drewN {W : World} {bw bm g : Nat} (h : AsideB W bw bm g) (k : Nat) : AsideB (W.drewN k) bw bm g := ⟨h.lt, h.n1, h.n3, h.row⟩
theorem BW.other {W : World} {base bw bm g j : Nat} {o : List Nd} (h : BW W base bw bm o) (ha : AsideB W bw bm g) (v : Value) : BW (W.setCell ⟨g, j, none⟩ v) base bw bm o :=
  h.keep (by simp) (Below.heap_setCell _ _ _ _ ha.n1.symm) (Below.heap_setCell _ _ _ _ ha.n3.symm) (fun k hk => Below.heap_setCell _ _ _ _ (fun e => ha.row (by rw [hk, e])))
theorem step_appB {ops : Array Oper} {o : Oper} {a : Act} {K : Act → World → Prop} {Q : Exit → Act → World → Prop} {E : Prop} {out : List Nd} (n : Nd) (W : World) (hgd : o.guard = none) (s x : Operand)
    (ho : o.op = .call { callee := .builtin .append, args := #[s, x], argTypes := #[23, 23] }) (base b : Nat) (v : Value)
    (hs : a.eval s = v) (hown : W.ownsRow base 53 6 v out.length (nds out)) (hx : a.eval x = .slice (some ⟨b, 0, none⟩) 1 1)
    (hc : ∀ j u, (ndC n)[j]? = some u → W.cell? ⟨b, j, none⟩ = some u) (hl : out.length ≤ 1000000) (hbase : base ≤ W.heap.size)
    (h : ∀ g cap w', w'.ownsRow base 53 6 (.slice (some ⟨g, 0, none⟩) (out.length + 1) cap) (out ++ [n]).length (nds (out ++ [n])) → W.grownBy w' v.ownBlock → (v.ownBlock = some g ∨ W.heap.size ≤ g) → K (a.put o.dst (.slice (some ⟨g, 0, none⟩) (out.length + 1) cap)) w') :
    if Region.wanted o (yielded ops a.tmps) = true then Oper.wp Tryd.prog o a W K Q else E := by
  obtain ⟨i0, hi, hz0, hz1, hz2⟩ := info_parts Tryd.infoNode
  refine step_append_lies W hgd s x 23 ho base 53 i0 _ 6 48 Tryd.underlying23 hi hz0 hz1 hz2 rfl (by decide) v out.length (nds out) hs hown ⟨b, 0, none⟩ 1 1 (ndC n) hx rfl ?_ ?_ (by decide) (by unfold maxLen; omega) (by omega) hbase _ rfl ?_
  · intro j u hj
    have := hc j u hj
    rw [addr_zero]
    exact this
  · intro u hu
    simp only [ndC, List.mem_cons, List.not_mem_nil, or_false] at hu
    rcases hu with rfl | rfl | rfl | rfl | rfl | rfl <;> rfl
  · intro g cap w' h1 h2 h3 _
    refine h g cap w' ?_ h2 (h3.imp id (fun e => by omega))
    rw [nds_append, List.length_append]
    have e : nds [n] = ndC n := by simp [nds]
    rw [e]
    exact h1
set_option maxRecDepth 100000 in
set_option maxHeartbeats 4000000 in
theorem bAdd_old (x : Nd) (base bw bm : Nat) (q : List Nd) (w : World) (hS : BW w base bw bm q) (hin : x ∈ q) :
    Calls Tryd.prog 64 #[.pointer (some ⟨bw, 0, none⟩), nv x] w fun e w' => e = .returned (.int .i64 (q.idxOf x : Int)) ∧ Below w.heap.size w w' := by
  obtain ⟨D, hown, hM⟩ := hS.map
  have hm := hS.mp
  have lw : bw < w.heap.size := Nat.lt_of_lt_of_le hS.lw hS.lb
  have HB : Hid (∀ o, Below w.heap.size w (w.alloc o)) := Lib.hid (fun o => (Below.refl _ w).alloc (Nat.le_refl _) o)
  have hL : ∀ W : World, W.heap[bm]? = w.heap[bm]? → (Instr.lookup 89 (.map (some bm)) (nv x) true).run Tryd.prog W = .ok (.tuple #[.int .i64 (q.idxOf x : Int), .bool true]) W := fun W h => look_old (ownsMap_keep hown h) hM hin
  have lm : bm < w.heap.size := Nat.lt_of_lt_of_le hS.lm hS.lb
  have hL1 : ∀ (o : Obj) (k : Nat), (Instr.lookup 89 (.map (some bm)) (nv x) true).run Tryd.prog ((w.alloc o).drewN k) = .ok (.tuple #[.int .i64 (q.idxOf x : Int), .bool true]) ((w.alloc o).drewN k) := fun o k => hL _ (by show (w.alloc o).heap[bm]? = _; exact Below.heap_alloc w o bm lm)
  unfold nv at hL1 ⊢
  generalize q.idxOf x = z at *
  clear hS hin hL hM hown
  go_enter Tryd.func64, Tryd.ntmps64
  go_wp2
  go_quiet (fail)
  go_wp2
  go_ret
  exact ⟨rfl, below_drewN (HB.out _) _⟩
theorem BW.put_end {w w3 w4 : World} {base bw bm g3 c3 : Nat} {q : List Nd} {x : Nd} {D : DataW Unit} {row : Option Nat} (h : BW w base bw bm q) (hb3 : Below 0 w w3) (hk : ∀ g, g < w.heap.size → g ≠ bm → w3.heap[g]? = w.heap[g]?)
    (hM : MapOf q D) (hx : x ∉ q) (hw : NdW x) (ho3 : w3.ownsMap Tryd.prog 53 (plainElem (H := Unit) Tryd.prog 3) bm (q.length + 1) (D.put (keyN x) (.lit (.int .i64 (q.length : Int)))))
    (hrow : rowB w bw = row) (ho : w4.ownsRow base 53 6 (.slice (some ⟨g3, 0, none⟩) (q.length + 1) c3) (q ++ [x]).length (nds (q ++ [x]))) (hg : w3.grownBy w4 row)
    (hr : (Value.slice (some ⟨g3, 0, none⟩) (q.length + 1) c3).ownBlock = row ∨ ∃ g, (Value.slice (some ⟨g3, 0, none⟩) (q.length + 1) c3).ownBlock = some g ∧ w.heap.size ≤ g) :
    BW (w4.setCell ⟨bw, 0, none⟩ (.slice (some ⟨g3, 0, none⟩) (q.length + 1) c3)) base bw bm (q ++ [x]) ∧ Fb bw bm w (w4.setCell ⟨bw, 0, none⟩ (.slice (some ⟨g3, 0, none⟩) (q.length + 1) c3)) := by
  have lw := h.lw
  have lm := h.lm
  have lb := h.lb
  have n2 := h.n2
  have hs3 := hb3.size
  have hrl : ∀ g, row = some g → base ≤ g := fun g e => (h.row g (hrow.trans e)).1
  have hb4 : ∀ g, g < base → g ≠ bm → w4.heap[g]? = w.heap[g]? := fun g h1 h2 => (hg.block g (by omega) (fun e => by have := hrl g e.symm; omega)).trans (hk g (by omega) h2)
  have hbw := hb4 bw lw n2
  have hbm : (w4.setCell ⟨bw, 0, none⟩ (.slice (some ⟨g3, 0, none⟩) (q.length + 1) c3)).heap[bm]? = w3.heap[bm]? := (Below.heap_setCell _ _ _ _ (by show bm ≠ bw; omega)).trans (hg.block bm (by omega) (fun e => by have := hrl bm e.symm; omega))
  obtain ⟨A2, c2, h2, _⟩ := h.out
  have hc2 := (World.cell?_of_block (a := ⟨bw, 0, none⟩) hbw).trans h2
  have hk2 := World.cell?_setCell_same w4 ⟨bw, 0, none⟩ (.slice (some ⟨g3, 0, none⟩) (q.length + 1) c3) hc2
  have hj : ∀ j v, j ≠ 0 → w.cell? ⟨bw, j, none⟩ = some v → (w4.setCell ⟨bw, 0, none⟩ (.slice (some ⟨g3, 0, none⟩) (q.length + 1) c3)).cell? ⟨bw, j, none⟩ = some v := fun j v hj hv => by
    rw [World.cell?_setCell_other w4 ⟨bw, 0, none⟩ ⟨bw, j, none⟩ _ (fun e2 => by have h9 := congrArg Addr.off e2; dsimp only at h9; omega)]
    exact (World.cell?_of_block (a := ⟨bw, j, none⟩) hbw).trans hv
  have hsz : w.heap.size ≤ (w4.setCell ⟨bw, 0, none⟩ (.slice (some ⟨g3, 0, none⟩) (q.length + 1) c3)).heap.size := by have := hg.size; simp; omega
  have hlen : (q ++ [x]).length = q.length + 1 := by simp
  refine ⟨⟨lw, lm, n2, by omega, ⟨_, c3, by rw [hlen]; exact hk2, ?_⟩, ?_, hj 1 _ (by decide) h.mp, ⟨_, ?_, hM.put hw hx⟩⟩, ?_⟩
  · rw [hlen]
    have := ownsRow_setCell_below ho (a := ⟨bw, 0, none⟩) lw (.slice (some ⟨g3, 0, none⟩) (q.length + 1) c3)
    rw [hlen] at this
    exact this
  · rw [World.frozen?_setCell]
    exact (World.frozen?_of_block (a := ⟨bw, 0, none⟩) hbw).trans h.fout
  · rw [hlen]
    exact ownsMap_keep ho3 hbm
  · refine ⟨hg.os.trans hb3.os, hg.tape.trans hb3.tape, hg.output.trans hb3.output, hsz, fun g hg1 h5 h7 h8 => ?_, ?_⟩
    · rw [hrow] at h8
      exact (Below.heap_setCell w4 _ _ g h5).trans ((hg.block g (by omega) h8).trans (hk g hg1 h7))
    · rw [hrow, rowB_of hk2]
      exact hr
set_option maxRecDepth 100000 in
set_option maxHeartbeats 4000000 in
theorem bAdd_new (x : Nd) (base bw bm : Nat) (q : List Nd) (w : World) (hS : BW w base bw bm q) (hin : x ∉ q) (hw : NdW x) (hm : q.length ≤ 1000000) :
    Calls Tryd.prog 64 #[.pointer (some ⟨bw, 0, none⟩), nv x] w fun e w' => e = .returned (.int .i64 (q.length : Int)) ∧ BW w' base bw bm (q ++ [x]) ∧ Fb bw bm w w' := by
  obtain ⟨D, hown, hM⟩ := hS.map
  obtain ⟨A2, c2, h2, hrow⟩ := hS.out
  have hm3 := hS.mp
  have lb := hS.lb
  have lw : bw < w.heap.size := Nat.lt_of_lt_of_le hS.lw hS.lb
  have lm : bm < w.heap.size := Nat.lt_of_lt_of_le hS.lm hS.lb
  have hfo := hS.fout
  have HS := Lib.hid hS
  have hL0 := fun (o : Obj) => look_new (ownsMap_keep hown (Below.heap_alloc w o bm lm)) hM hw hin
  obtain ⟨z, hL1⟩ := hL0 (.cells #[.int .i64 x.op, .int .i64 x.i, .int .i64 x.e, .int .i64 x.g, .int .i64 x.x, .int .i64 x.y] 53)
  have HB : Hid (Below w.heap.size w (w.alloc (.cells #[.int .i64 x.op, .int .i64 x.i, .int .i64 x.e, .int .i64 x.g, .int .i64 x.x, .int .i64 x.y] 53))) := Lib.hid ((Below.refl _ w).alloc (Nat.le_refl _) _)
  have HBX := Lib.hid (Box.made w x 53)
  have HOWN := Lib.hid hown
  have HM := Lib.hid hM
  have HW := Lib.hid hw
  have HR := Lib.hid hrow
  have HI := Lib.hid hin
  unfold nv at hL1 ⊢
  clear hS hin hL0 hM hown hw hrow
  go_enter Tryd.func64, Tryd.ntmps64
  go_wp2
  go_quiet (fail)
  go_wp2
  have HB0 : Hid (Below w.heap.size w ((w.alloc (.cells #[.int .i64 x.op, .int .i64 x.i, .int .i64 x.e, .int .i64 x.g, .int .i64 x.x, .int .i64 x.y] 53)).drewN nq)) := Lib.hid (below_drewN HB.out _)
  have HBX0 : Hid (Box ((w.alloc (.cells #[.int .i64 x.op, .int .i64 x.i, .int .i64 x.e, .int .i64 x.g, .int .i64 x.x, .int .i64 x.y] 53)).drewN nq) w.heap.size x) := Lib.hid HBX.out
  have hsz0 : w.heap.size < ((w.alloc (.cells #[.int .i64 x.op, .int .i64 x.i, .int .i64 x.e, .int .i64 x.g, .int .i64 x.x, .int .i64 x.y] 53)).drewN nq).heap.size := by show w.heap.size < (w.alloc _).heap.size; simp
  clear hL1 HB HBX
  generalize (w.alloc (.cells #[.int .i64 x.op, .int .i64 x.i, .int .i64 x.e, .int .i64 x.g, .int .i64 x.x, .int .i64 x.y] 53)).drewN nq = w0 at *
  obtain ⟨w3, hrun, hown3, hturn⟩ := World.ownsMap.store (w := w0.drew) (ownsMap_keep HOWN.out (show w0.drew.heap[bm]? = w.heap[bm]? from HB0.out.block bm lm)) nodeLaw Tryd.underlying89 (by unfold maxLen; omega) (key_nd HW.out) (plainElem_int (H := Unit) Tryd.underlying3 (show (Lit.int .i64 (q.length : Int)).wf = true from WalkArith.wf_i64 (by omega)))
  have hc3 := (HB0.out.cell (p := ⟨bw, 1, none⟩) lw).trans hm3
  obtain ⟨b0, b1, b2, b3, b4, b5, bf⟩ := HBX0.out
  clear bf
  unfold nv at hrun
  have HBK : Hid (∀ g, g < w.heap.size → g ≠ bm → w3.heap[g]? = w.heap[g]?) := Lib.hid (fun g h1 h2 => (turned_cell hturn (show g < w0.heap.size by omega) h2).trans (HB0.out.block g h1))
  have HG := Lib.hid hturn.grown
  have HO3 := Lib.hid hown3
  clear hown3 hturn
  go_region
  clear hrun b0 b1 b2 b3 b4 b5 hc3
  have hsz3 : w.heap.size < w3.heap.size := Nat.lt_of_lt_of_le hsz0 HG.out.size
  obtain ⟨b0, b1, b2, b3, b4, b5, bf⟩ := HBX0.out.keep (W' := w3) (HG.out.block w.heap.size hsz0 (fun e => by injection e; omega))
  clear bf
  have hc2 : w3.cell? ⟨bw, 0, none⟩ = some (.slice A2 q.length c2) := (World.cell?_of_block (a := ⟨bw, 0, none⟩) (HBK.out bw lw HS.out.n2)).trans h2
  have hf2 : w3.frozen? ⟨bw, 0, none⟩ = false := (World.frozen?_of_block (a := ⟨bw, 0, none⟩) (HBK.out bw lw HS.out.n2)).trans hfo
  have hrowlt : Hid (∀ g, (Value.slice A2 q.length c2).ownBlock = some g → base ≤ g ∧ g < w.heap.size) := Lib.hid (fun g hg => HR.out.lt g hg)
  have hbmr : Hid (∀ g, (Value.slice A2 q.length c2).ownBlock = some g → g ≠ bm) := Lib.hid (fun g hg e => by have := (hrowlt.out g hg).1; have := HS.out.lm; omega)
  have hO0 : Hid (w3.ownsRow base 53 6 (.slice A2 q.length c2) q.length (nds q)) := Lib.hid (own_keep1 HR.out (fun g hg => HBK.out g (hrowlt.out g hg).2 (hbmr.out g hg)))
  have hO1 : Hid (∀ o, (w3.drew.alloc o).ownsRow base 53 6 (.slice A2 q.length c2) q.length (nds q)) := Lib.hid (fun o => own_keep1 hO0.out (fun g hg => Below.heap_alloc w3.drew o g (by show g < w3.heap.size; have := (hrowlt.out g hg).2; omega)))
  have hO2 : Hid (∀ o, base ≤ (w3.drew.alloc o).heap.size) := Lib.hid (fun o => by have : (w3.drew.alloc o).heap.size = w3.heap.size + 1 := by simp
                                                                                   omega)
  have hO3 : Hid (∀ j u, (ndC x)[j]? = some u → (w3.drew.alloc (.cells #[.int .i64 x.op, .int .i64 x.i, .int .i64 x.e, .int .i64 x.g, .int .i64 x.x, .int .i64 x.y] 53)).cell? ⟨w3.heap.size, j, none⟩ = some u) := Lib.hid (fun j u hj => by
    have hh := heap_alloc_new w3.drew (.cells #[.int .i64 x.op, .int .i64 x.i, .int .i64 x.e, .int .i64 x.g, .int .i64 x.x, .int .i64 x.y] 53)
    have := Lib.cell_of_heap hh j
    rw [show (⟨w3.heap.size, j, none⟩ : Addr) = ⟨w3.drew.heap.size, j, none⟩ from rfl, this, ← hj]
    simp [ndC])
  have HNE : Hid (some bw ≠ (Value.slice A2 q.length c2).ownBlock) := Lib.hid (fun e => by have := (hrowlt.out bw e.symm).1; have := HS.out.lw; omega)
  have HWW : Hid (∀ o w4, (w3.drew.alloc o).grownBy w4 (Value.slice A2 q.length c2).ownBlock → w3.grownBy w4 (Value.slice A2 q.length c2).ownBlock ∧ w4.cell? ⟨bw, 0, none⟩ = some (.slice A2 q.length c2) ∧ w4.frozen? ⟨bw, 0, none⟩ = false) := Lib.hid (fun o w4 hg => by
    have hb : Below w3.heap.size w3 (w3.drew.alloc o) := ((Below.refl _ w3).drew).alloc (Nat.le_refl _) o
    have h4 : w3.grownBy w4 (Value.slice A2 q.length c2).ownBlock := ⟨hg.os.trans hb.os, hg.tape.trans hb.tape, hg.output.trans hb.output, Nat.le_trans hb.size hg.size, fun g hg1 hg2 => (hg.block g (Nat.lt_of_lt_of_le hg1 hb.size) hg2).trans (hb.block g hg1)⟩
    exact ⟨h4, (h4.cell_far ⟨bw, 0, none⟩ (by show bw < w3.heap.size; omega) HNE.out).trans hc2, (h4.frozen_far ⟨bw, 0, none⟩ (by show bw < w3.heap.size; omega) HNE.out).trans hf2⟩)
  have e0 := World.new_ne w3 _ hc2
  have ebw : bw < w3.heap.size := by omega
  have ebn : bw ≠ w3.heap.size := by omega
  go_wp2
  go_region_law
    ((refine step_appB x _ (by rfl) _ _ (by rfl) base _ _ (by rfl) (hO1.out _) (by rfl) hO3.out hm (hO2.out _) ?_; intro g3 c3 w4 ho3 hg3 hr3; obtain ⟨hg4, k0, k1⟩ := HWW.out _ _ hg3; have HH := Lib.hid (And.intro ho3 (And.intro hg4 (row_new (n := q.length + 1) (c := c3) hr3 (show w.heap.size ≤ (w3.drew.alloc _).heap.size by simp; omega)))); clear ho3 hg3 hg4 hr3))
  all_goals clear b0 b1 b2 b3 b4 b5 hc2 hf2 e0 ebw ebn
  all_goals go_wp2
  all_goals go_ret
  all_goals exact ⟨ret_i64 (by first | rfl | (simp; done) | omega), HS.out.put_end ⟨HG.out.os.trans HB0.out.os, HG.out.tape.trans HB0.out.tape, HG.out.output.trans HB0.out.output, Nat.le_of_lt hsz3, fun k hk => absurd hk (by omega)⟩ HBK.out HM.out HI.out HW.out HO3.out (rowB_of h2) HH.out.1 HH.out.2.1 HH.out.2.2⟩
theorem bAdd_any (x : Nd) (base bw bm : Nat) (q : List Nd) (w : World) (hS : BW w base bw bm q) (hw : NdW x) (hm : q.length ≤ 1000000) :
    Calls Tryd.prog 64 #[.pointer (some ⟨bw, 0, none⟩), nv x] w fun e w' => e = .returned (.int .i64 ((putNd q x).1 : Nat)) ∧ BW w' base bw bm (putNd q x).2 ∧ Fb bw bm w w' := by
  by_cases hin : x ∈ q
  · refine (bAdd_old x base bw bm q w hS hin).mono ?_
    rintro e w' ⟨rfl, hb⟩
    have e1 : putNd q x = (q.idxOf x, q) := by unfold putNd; rw [if_pos hin]
    rw [e1]
    exact ⟨rfl, hS.below hb, Fb.of_below hb (Nat.lt_of_lt_of_le hS.lw hS.lb)⟩
  · refine (bAdd_new x base bw bm q w hS hin hw hm).mono ?_
    rintro e w' ⟨rfl, h1, h2⟩
    have e1 : putNd q x = (q.length, q ++ [x]) := by unfold putNd; rw [if_neg hin]
    rw [e1]
    exact ⟨rfl, h1, h2⟩
end Go.Proofs.YtcdmchaehafijaaDoor
/- Layer 8: the tables of operands and of duals; a node with the numbers of its operands. -/
namespace Go.Proofs.YtcdmchaehafijaaDoor
open Go.RowKit Go.Proofs.Ws Go.Maps
set_option maxRecDepth 100000
structure EnvR (W : World) (B : Nat) : Prop where
  ops : ∀ k : Nat, k < 22 → W.cell? ⟨1, k, none⟩ = some (.int .i64 (shO (k : Int)))
  lo : 1 < B
theorem EnvR.below {W W' : World} {B : Nat} (h : EnvR W B) (hb : Below B W W') : EnvR W' B :=
  ⟨fun k hk => (hb.cell (p := ⟨1, k, none⟩) h.lo).trans (h.ops k hk), h.lo⟩
theorem EnvR.up {W : World} {B B' : Nat} (h : EnvR W B) (hb : B ≤ B') : EnvR W B' := ⟨h.ops, Nat.lt_of_lt_of_le h.lo hb⟩
theorem known_nat {op : Int} (h : known op = true) : ∃ m : Nat, op = (m : Int) ∧ 1 ≤ m ∧ m < 22 := by
  unfold known at h
  simp only [Bool.and_eq_true, decide_eq_true_eq] at h
  exact ⟨op.toNat, by omega, by omega, by omega⟩
theorem arO_2 {op : Int} (h : usesY op = true) : shO op = 2 := if_pos h
theorem arO_1 {op : Int} (h : usesX op = true) (h2 : ¬ usesY op = true) : shO op = 1 := (if_neg h2).trans (if_pos h)
theorem arO_0 {op : Int} (h : ¬ usesX op = true) : shO op = 0 := (if_neg (fun k => h (usesY_X k))).trans (if_neg h)
theorem two_new (w : World) (a b : Obj) {p : Addr} (h : p.block < w.heap.size) : ((w.alloc a).alloc b).cell? p = w.cell? p := by
  rw [World.cell?_alloc_lt _ _ _ (by simp; omega), World.cell?_alloc_lt _ _ _ h]
theorem two_below (w : World) (a b : Obj) : Below w.heap.size w ((w.alloc a).alloc b) := ((Below.refl _ w).alloc (Nat.le_refl _) a).alloc (by simp) b
theorem ivq_at {nu : List Nat} {k : Nat} (h : k < nu.length) : (iv nu)[k]? = some (.int .i64 ((nu.getD k 0 : Nat) : Int)) := by
  unfold iv
  rw [List.getElem?_map, List.getElem?_eq_getElem h, List.getD_eq_getElem?_getD, List.getElem?_eq_getElem h]
  rfl
theorem ivq_len (nu : List Nat) : (iv nu).length = nu.length := by unfold iv; rw [List.length_map]
theorem iv_read {w : World} {B n : Nat} {A : Option Addr} {nu : List Nat} (h : Reads w B 1 A n (iv nu)) {k : Nat} (hk : k < n) : ∃ ad, A = some ad ∧ ad.block < B ∧ w.cell? (ad.add k) = some (.int .i64 ((nu.getD k 0 : Nat) : Int)) := by
  obtain ⟨ad, u, h1, h2, h3, h4⟩ := h.at_ hk
  have hl : k < nu.length := by
    have := (List.getElem?_eq_some_iff.1 h3).1
    rwa [ivq_len] at this
  rw [ivq_at hl] at h3
  injection h3 with h3
  exact ⟨ad, h1, h2, by rw [h4, h3]⟩
theorem two_heap (w : World) (a : Obj) (cs : Array Value) (t : TypeId) : ((w.alloc a).alloc (.cells cs t)).heap[w.heap.size + 1]? = some (.cells cs t (0, 0)) := by
  have h := heap_alloc_new (w.alloc a) (.cells cs t)
  have e : (w.alloc a).heap.size = w.heap.size + 1 := by simp
  rwa [e] at h
set_option maxHeartbeats 4000000 in
theorem wops_0 (op i e g x y : Int) (m : Nat) (hm : op = (m : Int)) (h22 : m < 22) (v : Value) (B : Nat) (w : World) (hE : EnvR w B) (hB : B ≤ w.heap.size) (ho : shO op = 0) :
    Calls Tryd.prog 57 #[.agg #[.int .i64 op, .int .i64 i, .int .i64 e, .int .i64 g, .int .i64 x, .int .i64 y], v] w fun r w' => r = .returned (.agg #[.int .i64 op, .int .i64 i, .int .i64 e, .int .i64 g, .int .i64 x, .int .i64 y]) ∧ Below w.heap.size w w' := by
  subst hm
  have H0 : ∀ a b, ((w.alloc a).alloc b).cell? ⟨1, m, none⟩ = some (.int .i64 0) := fun a b => by rw [two_new w a b (Nat.lt_of_lt_of_le hE.lo hB), hE.ops m h22, ho]
  have HB := Lib.hid (two_below w)
  have lo := Nat.lt_of_lt_of_le hE.lo hB
  clear ho hE
  go_enter Tryd.func57, Tryd.ntmps57
  go_wp2_with fail
  exact bodyPost_ret (results_cell_row rfl _ _ (w.heap.size + 1) _ _ (0, 0) _ rfl (two_heap _ _ _ _) Tryd.underlying53 rfl nodeInfo) rfl ⟨rfl, HB.out _ _⟩
set_option maxHeartbeats 4000000 in
theorem wops_1 (op i e g y : Int) (k z : Nat) (m : Nat) (hm : op = (m : Int)) (h22 : m < 22) (ad : Addr) (n c : Nat) (B : Nat) (w : World) (hE : EnvR w B) (hB : B ≤ w.heap.size) (ho : shO op = 1)
    (hk : k < n) (had : ad.block < w.heap.size) (hc : w.cell? (ad.add k) = some (.int .i64 (z : Int))) :
    Calls Tryd.prog 57 #[.agg #[.int .i64 op, .int .i64 i, .int .i64 e, .int .i64 g, .int .i64 (k : Int), .int .i64 y], .slice (some ad) n c] w fun r w' => r = .returned (.agg #[.int .i64 op, .int .i64 i, .int .i64 e, .int .i64 g, .int .i64 (z : Int), .int .i64 y]) ∧ Below w.heap.size w w' := by
  subst hm
  have H0 : ∀ a b, ((w.alloc a).alloc b).cell? ⟨1, m, none⟩ = some (.int .i64 1) := fun a b => by rw [two_new w a b (Nat.lt_of_lt_of_le hE.lo hB), hE.ops m h22, ho]
  have H1 : ∀ a b, ((w.alloc a).alloc b).cell? (ad.add k) = some (.int .i64 (z : Int)) := fun a b => by rw [two_new w a b (by rw [block_of_add]; exact had), hc]
  have HB := Lib.hid (two_below w)
  have lo := Nat.lt_of_lt_of_le hE.lo hB
  clear ho hE hc
  go_enter Tryd.func57, Tryd.ntmps57
  go_wp2_with fail
  exact bodyPost_ret (results_cell_row rfl _ _ (w.heap.size + 1) _ _ (0, 0) _ rfl (two_heap _ _ _ _) Tryd.underlying53 rfl nodeInfo) rfl ⟨rfl, HB.out _ _⟩
set_option maxHeartbeats 4000000 in
theorem wops_2 (op i e g : Int) (k l z u : Nat) (m : Nat) (hm : op = (m : Int)) (h22 : m < 22) (ad : Addr) (n c : Nat) (B : Nat) (w : World) (hE : EnvR w B) (hB : B ≤ w.heap.size) (ho : shO op = 2)
    (hk : k < n) (hl : l < n) (had : ad.block < w.heap.size) (hc : w.cell? (ad.add k) = some (.int .i64 (z : Int))) (hd : w.cell? (ad.add l) = some (.int .i64 (u : Int))) :
    Calls Tryd.prog 57 #[.agg #[.int .i64 op, .int .i64 i, .int .i64 e, .int .i64 g, .int .i64 (k : Int), .int .i64 (l : Int)], .slice (some ad) n c] w fun r w' => r = .returned (.agg #[.int .i64 op, .int .i64 i, .int .i64 e, .int .i64 g, .int .i64 (z : Int), .int .i64 (u : Int)]) ∧ Below w.heap.size w w' := by
  subst hm
  have H0 : ∀ a b, ((w.alloc a).alloc b).cell? ⟨1, m, none⟩ = some (.int .i64 2) := fun a b => by rw [two_new w a b (Nat.lt_of_lt_of_le hE.lo hB), hE.ops m h22, ho]
  have H1 : ∀ a b, ((w.alloc a).alloc b).cell? (ad.add k) = some (.int .i64 (z : Int)) := fun a b => by rw [two_new w a b (by rw [block_of_add]; exact had), hc]
  have H2 : ∀ a b, ((w.alloc a).alloc b).cell? (ad.add l) = some (.int .i64 (u : Int)) := fun a b => by rw [two_new w a b (by rw [block_of_add]; exact had), hd]
  have HB := Lib.hid (two_below w)
  have lo := Nat.lt_of_lt_of_le hE.lo hB
  clear ho hE hc hd
  go_enter Tryd.func57, Tryd.ntmps57
  go_wp2_with fail
  exact bodyPost_ret (results_cell_row rfl _ _ (w.heap.size + 1) _ _ (0, 0) _ rfl (two_heap _ _ _ _) Tryd.underlying53 rfl nodeInfo) rfl ⟨rfl, HB.out _ _⟩
/-- a node with the places of its operands -/
theorem wops_any (n : Nd) (nu : List Nat) (A : Option Addr) (l c B : Nat) (w : World) (hE : EnvR w B) (hB : B ≤ w.heap.size) (hk : known n.op = true) (hR : Reads w w.heap.size 1 A l (iv nu)) 
    (hx : usesX n.op = true → 0 ≤ n.x ∧ n.x < (l : Int)) (hy : usesY n.op = true → 0 ≤ n.y ∧ n.y < (l : Int)) :
    Calls Tryd.prog 57 #[nv n, .slice A l c] w fun r w' => r = .returned (nv (wOps n nu)) ∧ Below w.heap.size w w' := by
  obtain ⟨m, hm, _, h22⟩ := known_nat hk
  obtain ⟨op, i, e, g, x, y⟩ := n
  dsimp only at hm hk hx hy
  unfold nv wOps
  dsimp only
  by_cases h2 : usesY op = true
  · obtain ⟨x0, x1⟩ := hx (usesY_X h2)
    obtain ⟨y0, y1⟩ := hy h2
    rw [if_pos h2, if_pos (usesY_X h2)]
    obtain ⟨ad, rfl, h3, h4⟩ := iv_read hR (k := x.toNat) (by omega)
    obtain ⟨ad2, e2, _, h5⟩ := iv_read hR (k := y.toNat) (by omega)
    injection e2 with e2
    subst e2
    have := wops_2 op i e g x.toNat y.toNat _ _ m hm h22 ad l c B w hE hB (arO_2 h2) (by omega) (by omega) h3 h4 h5
    rwa [Int.toNat_of_nonneg x0, Int.toNat_of_nonneg y0] at this
  · rw [if_neg h2]
    by_cases h1 : usesX op = true
    · obtain ⟨x0, x1⟩ := hx h1
      rw [if_pos h1]
      obtain ⟨ad, rfl, h3, h4⟩ := iv_read hR (k := x.toNat) (by omega)
      have := wops_1 op i e g y x.toNat _ m hm h22 ad l c B w hE hB (arO_1 h1 h2) (by omega) h3 h4
      rwa [Int.toNat_of_nonneg x0] at this
    · rw [if_neg h1]
      exact wops_0 op i e g x y m hm h22 _ B w hE hB (arO_0 h1)
end Go.Proofs.YtcdmchaehafijaaDoor
/- Layer 8: the builder's own functions. -/
namespace Go.Proofs.YtcdmchaehafijaaDoor
open Go.RowKit Go.Proofs.Ws Go.Maps
set_option maxRecDepth 100000
/-- the builder and the tables; its nodes' operators are known -/
structure Bu (B base bw bm : Nat) (W : World) (o : List Nd) : Prop where
  st : BW W base bw bm o
  env : EnvR W B
  b1 : B ≤ bw
  b2 : B ≤ bm
  kn : knownL o
  bd : opsL o
theorem Bu.low {B base bw bm : Nat} {W W' : World} {o : List Nd} (h : Bu B base bw bm W o) (hF : Fb bw bm W W') : Below B W W' := by
  have h1 := h.st.lw
  have h2 := h.st.lb
  have h3 := h.b1
  exact hF.low (by omega) h.b1 h.b2 (fun g hg => by have := (h.st.row g hg).1; omega)
theorem Bu.size {B base bw bm : Nat} {W : World} {o : List Nd} (h : Bu B base bw bm W o) : B ≤ W.heap.size := by
  have h1 := h.st.lw
  have h2 := h.st.lb
  have h3 := h.b1
  omega
theorem Bu.next {B base bw bm : Nat} {W W' : World} {o o' : List Nd} (h : Bu B base bw bm W o) (hS : BW W' base bw bm o') (hF : Fb bw bm W W') (hk : knownL o') (ho : opsL o') : Bu B base bw bm W' o' :=
  ⟨hS, h.env.below (h.low hF), h.b1, h.b2, hk, ho⟩
theorem Bu.below {B base bw bm : Nat} {W W' : World} {o : List Nd} (h : Bu B base bw bm W o) (hb : Below W.heap.size W W') : Bu B base bw bm W' o :=
  ⟨h.st.below hb, h.env.below (hb.mono h.size), h.b1, h.b2, h.kn, h.bd⟩
theorem Bu.lwB {B base bw bm : Nat} {W : World} {o : List Nd} (h : Bu B base bw bm W o) : bw < W.heap.size := Nat.lt_of_lt_of_le h.st.lw h.st.lb
/-- the node at a place, as the loads see it -/
theorem Bu.at_ {B base bw bm : Nat} {W : World} {o : List Nd} (h : Bu B base bw bm W o) {k : Nat} (hk : k < o.length) {n : Nd} (hn : o.getD k nd0 = n) : ∃ ad c2, W.cell? ⟨bw, 0, none⟩ = some (.slice (some ad) o.length c2) ∧ ad.block < W.heap.size ∧ W.cell? (ad.add (k * 6)) = some (.int .i64 n.op) ∧
    W.cell? ⟨(ad.add (k * 6)).block, (ad.add (k * 6)).off + (0 + 1), none⟩ = some (.int .i64 n.i) ∧ W.cell? ⟨(ad.add (k * 6)).block, (ad.add (k * 6)).off + (1 + 1), none⟩ = some (.int .i64 n.e) ∧
    W.cell? ⟨(ad.add (k * 6)).block, (ad.add (k * 6)).off + (2 + 1), none⟩ = some (.int .i64 n.g) ∧ W.cell? ⟨(ad.add (k * 6)).block, (ad.add (k * 6)).off + (3 + 1), none⟩ = some (.int .i64 n.x) ∧ W.cell? ⟨(ad.add (k * 6)).block, (ad.add (k * 6)).off + (4 + 1), none⟩ = some (.int .i64 n.y) := by
  subst hn
  obtain ⟨A2, c2, h1, h2⟩ := h.st.out
  obtain ⟨ad, rfl, hb, k0, k1, k2, k3, k4, k5⟩ := (Reads.of_own h2).nd_at hk
  exact ⟨ad, c2, h1, hb, k0, add_cell k1, add_cell k2, add_cell k3, add_cell k4, add_cell k5⟩
/-- a node that may be added -/
structure NodeIn (o : List Nd) (n : Nd) : Prop where
  kn : known n.op = true
  ops : opsOk n o.length
  w : NdW n
theorem knownL_put {o : List Nd} (h : knownL o) {n : Nd} (hn : known n.op = true) : knownL (putNd o n).2 := by
  unfold putNd
  split
  · exact h
  · intro i hi
    have hi2 : i < o.length + 1 := by simpa using hi
    by_cases e : i = o.length
    · subst e
      rw [List.getD_eq_getElem?_getD]
      simp [hn]
    · have := h i (by omega)
      rw [List.getD_eq_getElem?_getD, List.getElem?_append_left (by omega), ← List.getD_eq_getElem?_getD]
      exact this
theorem add_any {B base bw bm : Nat} {W : World} {o : List Nd} (h : Bu B base bw bm W o) {x : Nd} (hn : NodeIn o x) (hm : o.length ≤ 1000000) :
    Calls Tryd.prog 64 #[.pointer (some ⟨bw, 0, none⟩), nv x] W fun e w' => e = .returned (.int .i64 ((putNd o x).1 : Nat)) ∧ Bu B base bw bm w' (putNd o x).2 ∧ Fb bw bm W w' := by
  refine (bAdd_any x base bw bm o W h.st hn.w hm).mono ?_
  rintro e w' ⟨rfl, h1, h2⟩
  exact ⟨rfl, h.next h1 h2 (knownL_put h.kn hn.kn) (opsL_put h.bd hn.ops), h2⟩
theorem w_nat {k : Nat} (h : k ≤ 2000000) : (Lit.int .i64 (k : Int)).wf = true := WalkArith.wf_i64 (by omega)
theorem w_op {op : Int} (h : known op = true) : (Lit.int .i64 op).wf = true := by
  unfold known at h
  simp only [Bool.and_eq_true, decide_eq_true_eq] at h
  exact WalkArith.wf_i64 (by omega)
theorem jN_wide {op : Int} {x y : Nat} (hk : known op = true) (hx : x ≤ 2000000) (hy : y ≤ 2000000) : NdW (jN op x y) := ⟨w_op hk, w_nat (k := 0) (by omega), w_nat (k := 0) (by omega), w_nat (k := 0) (by omega), w_nat hx, w_nat hy⟩
theorem jN_not {o : List Nd} {x : Nat} (hx : x < o.length) (hm : o.length ≤ 1000000) : NodeIn o (jN 4 x 0) := by
  refine ⟨by show known 4 = true; decide, ⟨?_, ?_⟩, jN_wide (by decide) (by omega) (by omega)⟩
  · rw [if_pos (show usesX (jN 4 x 0).op = true from (by decide : usesX 4 = true))]
    show 0 ≤ (x : Int) ∧ (x : Int) < _
    omega
  · rw [if_neg (show ¬ usesY (jN 4 x 0).op = true from (by decide : ¬ usesY 4 = true))]
    rfl
theorem jN_const {o : List Nd} {op : Int} (h : op = 1 ∨ op = 2) : NodeIn o (jN op 0 0) := by
  have hk : known op = true := by rcases h with rfl | rfl <;> decide
  refine ⟨hk, ⟨?_, ?_⟩, jN_wide hk (by omega) (by omega)⟩
  · rw [if_neg (show ¬ usesX (jN op 0 0).op = true from by rcases h with rfl | rfl <;> (show ¬ usesX _ = true; decide))]
    rfl
  · rw [if_neg (show ¬ usesY (jN op 0 0).op = true from by rcases h with rfl | rfl <;> (show ¬ usesY _ = true; decide))]
    rfl
set_option maxHeartbeats 4000000 in
theorem bJoin_any {B base bw bm : Nat} {W : World} {o : List Nd} (h : Bu B base bw bm W o) {op : Int} {x y : Nat} (hn : NodeIn o (jN op x y)) (hm : o.length ≤ 1000000) :
    Calls Tryd.prog 77 #[.pointer (some ⟨bw, 0, none⟩), .int .i64 op, .int .i64 (x : Int), .int .i64 (y : Int)] W fun e w' => e = .returned (.int .i64 ((jPut o op x y).1 : Nat)) ∧ Bu B base bw bm w' (jPut o op x y).2 ∧ Fb bw bm W w' := by
  have H := Lib.hid (add_any h hn hm)
  unfold nv jN at H
  unfold jPut jN
  generalize putNd o ⟨op, 0, 0, 0, (x : Int), (y : Int)⟩ = r at *
  clear h hn
  go_enter Tryd.func77, Tryd.ntmps77
  go_wp2_with fail
  refine (H.out).mono ?_
  rintro e w1 ⟨rfl, h1, h2⟩
  have HH := Lib.hid (And.intro h1 h2)
  clear h1 h2
  go_wp2
  go_ret
  exact ⟨rfl, HH.out⟩
set_option maxHeartbeats 4000000 in
theorem bNot_any {B base bw bm : Nat} {W : World} {o : List Nd} (h : Bu B base bw bm W o) {x : Nat} (hx : x < o.length) (hm : o.length ≤ 1000000) :
    Calls Tryd.prog 90 #[.pointer (some ⟨bw, 0, none⟩), .int .i64 (x : Int)] W fun e w' => e = .returned (.int .i64 ((nPut o x).1 : Nat)) ∧ Bu B base bw bm w' (nPut o x).2 ∧ Fb bw bm W w' := by
  have H := Lib.hid (bJoin_any h (jN_not hx hm) hm)
  have e : jPut o 4 x 0 = nPut o x := rfl
  rw [e] at H
  generalize nPut o x = r at *
  clear h e hx hm
  go_enter Tryd.func90, Tryd.ntmps90
  go_wp2_with fail
  refine (H.out).mono ?_
  rintro e w1 ⟨rfl, h1, h2⟩
  have HH := Lib.hid (And.intro h1 h2)
  clear h1 h2
  go_wp2
  go_ret
  exact ⟨rfl, HH.out⟩
set_option maxHeartbeats 4000000 in
theorem bIsNot_any {B base bw bm : Nat} {W : World} {o : List Nd} (h : Bu B base bw bm W o) {x y : Nat} (hx : x < o.length) :
    Calls Tryd.prog 91 #[.pointer (some ⟨bw, 0, none⟩), .int .i64 (x : Int), .int .i64 (y : Int)] W fun e w' => e = .returned (.bool (decide (o.getD x nd0 = jN 4 y 0))) ∧ W = w' := by
  obtain ⟨n, hn⟩ : ∃ n, o.getD x nd0 = n := ⟨_, rfl⟩
  obtain ⟨ad, c2, k0, kb, k1, k2, k3, k4, k5, k6⟩ := h.at_ hx hn
  have hlw := h.lwB
  rw [hn]
  have HE : Hid ((if ((((n.op = 4 ∧ n.i = 0) ∧ n.e = 0) ∧ n.g = 0) ∧ n.x = (y : Int)) ∧ n.y = 0 then true else false) = decide (n = jN 4 y 0)) := Lib.hid (by
    obtain ⟨op, i, e, g, x, z⟩ := n
    unfold jN
    simp [and_assoc])
  clear h hn
  generalize o.length = l at *
  obtain ⟨op, i, e, g, a, b⟩ := n
  generalize decide ((⟨op, i, e, g, a, b⟩ : Nd) = jN 4 y 0) = r at *
  dsimp only at *
  go_enter Tryd.func91, Tryd.ntmps91
  go_wp2
  all_goals go_ret
  all_goals refine ⟨?_, rfl⟩
  all_goals rw [← HE.out]
  all_goals simp_all
set_option maxHeartbeats 4000000 in
theorem bNeg_any {B base bw bm : Nat} {W : World} {o : List Nd} (h : Bu B base bw bm W o) {x : Nat} (hx : x < o.length) (hm : o.length ≤ 1000000) :
    Calls Tryd.prog 75 #[.pointer (some ⟨bw, 0, none⟩), .int .i64 (x : Int)] W fun e w' => e = .returned (.int .i64 ((negP o x).1 : Nat)) ∧ Bu B base bw bm w' (negP o x).2 ∧ Fb bw bm W w' := by
  obtain ⟨n, hn⟩ : ∃ n, o.getD x nd0 = n := ⟨_, rfl⟩
  obtain ⟨ad, c2, k0, kb, k1, k2, k3, k4, k5, k6⟩ := h.at_ hx hn
  have hlw := h.lwB
  have HS := Lib.hid h
  have hops := h.bd x hx
  rw [hn] at hops
  have HN : Hid (∀ W', Below W.heap.size W W' → Calls Tryd.prog 90 #[.pointer (some ⟨bw, 0, none⟩), .int .i64 (x : Int)] W' fun e w' => e = .returned (.int .i64 ((nPut o x).1 : Nat)) ∧ Bu B base bw bm w' (nPut o x).2 ∧ Fb bw bm W w') := Lib.hid (fun W' hb => (bNot_any (h.below hb) hx hm).mono (fun e w' ⟨h1, h2, h3⟩ => ⟨h1, h2, (Fb.of_below hb hlw).trans h3⟩))
  have HA := Lib.hid (fun a => (Below.refl W.heap.size W).alloc (Nat.le_refl _) a)
  unfold negP
  rw [hn]
  by_cases h4 : n.op = 4
  · rw [if_pos h4]
    have hx0 : 0 ≤ n.x := (opsOk_x hops (by rw [h4]; decide)).1
    have e1 : ((n.x.toNat : Nat) : Int) = n.x := Int.toNat_of_nonneg hx0
    clear h hn HN hops
    generalize o.length = l at *
    obtain ⟨op, i, e, g, a, b⟩ := n
    dsimp only at *
    subst h4
    generalize a.toNat = q at *
    subst e1
    go_enter Tryd.func75, Tryd.ntmps75
    go_wp2
    go_ret
    exact ⟨rfl, HS.out.below (HA.out _), Fb.of_below (HA.out _) hlw⟩
  · rw [if_neg h4]
    clear h hn hops
    generalize o.length = l at *
    generalize nPut o x = r at *
    obtain ⟨op, i, e, g, a, b⟩ := n
    dsimp only at *
    go_enter Tryd.func75, Tryd.ntmps75
    go_wp2_with fail
    refine (HN.out _ (HA.out _)).mono ?_
    rintro e w1 ⟨rfl, h1, h2⟩
    have HH := Lib.hid (And.intro h1 h2)
    clear h1 h2
    go_wp2
    go_ret
    exact ⟨rfl, HH.out⟩
end Go.Proofs.YtcdmchaehafijaaDoor
