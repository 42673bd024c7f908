/- Layer 6: texts joined: Ga Gb Gc Gf Gh Gd Gda Gdb Gdc Gea Geb Gec Ged Ge Gg Gga Ggb Ggc Ggd Gi Gj Gja Gjb Gjc Gjd Gje Gjf Gjg Gk Gl. -/
import Derived.Test.YtkkkomkljpolbaaDoorNJg
import Derived.Test.YtkkkomkljpolbaaDoorNJh
import Derived.Test.YtkkkomkljpolbaaDoorNJi
import Derived.Test.YtkkkomkljpolbaaDoorNQp
import Derived.Test.YtkkkomkljpolbaaDoorNQq
/- Layer 8: the program's builder: a list of nodes and a map from the nodes to their places. -/
namespace Go.Proofs.YtkkkomkljpolbaaDoor
open Go.RowKit Go.Proofs.Ws Go.Maps
set_option maxRecDepth 100000
/-- the builder at block bw: the list (a row of its own), the map in block bm -/
structure BW (W : World) (base bw bm : Nat) (o : List Nd) : Prop where
  lw : bw < base
  lm : bm < base
  n2 : bw ≠ bm
  lb : base ≤ W.heap.size
  out : ∃ A2 c2, W.cell? ⟨bw, 0, none⟩ = some (.slice A2 o.length c2) ∧ W.ownsRow base 62 6 (.slice A2 o.length c2) o.length (nds o)
  fout : W.frozen? ⟨bw, 0, none⟩ = false
  mp : W.cell? ⟨bw, 1, none⟩ = some (.map (some bm))
  map : ∃ D, W.ownsMap Tryd.prog 62 (plainElem (H := Unit) Tryd.prog 3) bm o.length D ∧ MapOf o D
def rowB (W : World) (bw : Nat) : Option Nat := match W.cell? ⟨bw, 0, none⟩ with | some v => v.ownBlock | none => none
theorem rowB_of {W : World} {bw : Nat} {v : Value} (h : W.cell? ⟨bw, 0, none⟩ = some v) : rowB W bw = v.ownBlock := by unfold rowB; rw [h]
theorem rowB_same {w w' : World} {bw : Nat} (h : w'.heap[bw]? = w.heap[bw]?) : rowB w' bw = rowB w bw := by unfold rowB; rw [World.cell?_of_block (a := ⟨bw, 0, none⟩) h]
/-- what a step of the builder leaves -/
structure Fb (bw bm : Nat) (w w' : World) : Prop where
  os : w'.os = w.os
  tape : w'.tape = w.tape
  output : w'.output = w.output
  size : w.heap.size ≤ w'.heap.size
  block : ∀ g, g < w.heap.size → g ≠ bw → g ≠ bm → some g ≠ rowB w bw → w'.heap[g]? = w.heap[g]?
  row : rowB w' bw = rowB w bw ∨ ∃ g, rowB w' bw = some g ∧ w.heap.size ≤ g
theorem Fb.of_below {w w' : World} {bw bm : Nat} (h : Below w.heap.size w w') (hb : bw < w.heap.size) : Fb bw bm w w' :=
  ⟨h.os, h.tape, h.output, h.size, fun g hg _ _ _ => h.block g hg, .inl (rowB_same (h.block bw hb))⟩
theorem Fb.refl {w : World} {bw bm : Nat} : Fb bw bm w w := ⟨rfl, rfl, rfl, Nat.le_refl _, fun _ _ _ _ _ => rfl, .inl rfl⟩
theorem Fb.trans {a b c : World} {bw bm : Nat} (h : Fb bw bm a b) (k : Fb bw bm b c) : Fb bw bm a c := by
  refine ⟨k.os.trans h.os, k.tape.trans h.tape, k.output.trans h.output, Nat.le_trans h.size k.size, fun g hg h1 h3 h4 => ?_, ?_⟩
  · refine (k.block g (Nat.lt_of_lt_of_le hg h.size) h1 h3 ?_).trans (h.block g hg h1 h3 h4)
    rcases h.row with e | ⟨g2, e, hl⟩
    · rw [e]; exact h4
    · rw [e]; intro e2; injection e2; omega
  · rcases k.row with e | ⟨g2, e, hl⟩
    · rw [e]; exact h.row
    · exact .inr ⟨g2, e, Nat.le_trans h.size hl⟩
theorem Fb.low {bw bm : Nat} {w w' : World} (h : Fb bw bm w w') {B : Nat} (h0 : B ≤ w.heap.size) (h1 : B ≤ bw) (h4 : B ≤ bm) (h3 : ∀ g, rowB w bw = some g → B ≤ g) : Below B w w' :=
  ⟨h.os, h.tape, h.output, h.size, fun g hg => h.block g (by omega) (by omega) (by omega) (fun e => by have := h3 g e.symm; omega)⟩
theorem Fb.other {bw bm : Nat} {w W : World} (h : Fb bw bm w W) {g j : Nat} (v : Value) (h1 : w.heap.size ≤ g) (h2 : g ≠ bw) : Fb bw bm w (W.setCell ⟨g, j, none⟩ v) := by
  refine ⟨h.os, h.tape, h.output, by simpa using h.size, fun k hk a c d => (Below.heap_setCell _ _ _ _ (by show k ≠ g; omega)).trans (h.block k hk a c d), ?_⟩
  rw [rowB_same (Below.heap_setCell W ⟨g, j, none⟩ v bw h2.symm)]; exact h.row
theorem Fb.drewN {bw bm : Nat} {w W : World} (h : Fb bw bm w W) (k : Nat) : Fb bw bm w (W.drewN k) :=
  ⟨h.os, h.tape, h.output, h.size, h.block, h.row⟩
theorem BW.row {W : World} {base bw bm : Nat} {o : List Nd} (h : BW W base bw bm o) : ∀ g, rowB W bw = some g → base ≤ g ∧ g < W.heap.size := by
  obtain ⟨A2, c2, h1, h2⟩ := h.out
  intro g hg
  rw [rowB_of h1] at hg
  exact h2.lt g hg
theorem BW.keep {W W' : World} {base bw bm : Nat} {o : List Nd} (h : BW W base bw bm o) (hs : W.heap.size ≤ W'.heap.size) (hw : W'.heap[bw]? = W.heap[bw]?) (hm : W'.heap[bm]? = W.heap[bm]?)
    (hr : ∀ g, rowB W bw = some g → W'.heap[g]? = W.heap[g]?) : BW W' base bw bm o := by
  obtain ⟨A2, c2, h1, h2⟩ := h.out
  obtain ⟨D, h5, h6⟩ := h.map
  have e : ∀ j, W'.cell? ⟨bw, j, none⟩ = W.cell? ⟨bw, j, none⟩ := fun j => World.cell?_of_block (a := ⟨bw, j, none⟩) hw
  exact ⟨h.lw, h.lm, h.n2, Nat.le_trans h.lb hs, ⟨A2, c2, (e 0).trans h1, own_keep1 h2 (fun g hg => hr g (by rw [rowB_of h1]; exact hg))⟩,
    (World.frozen?_of_block (a := ⟨bw, 0, none⟩) hw).trans h.fout, (e 1).trans h.mp, ⟨D, ownsMap_keep h5 hm, h6⟩⟩
theorem BW.below {W W' : World} {base bw bm : Nat} {o : List Nd} (h : BW W base bw bm o) (hb : Below W.heap.size W W') : BW W' base bw bm o := by
  have lw := h.lw
  have lm := h.lm
  have lb := h.lb
  exact h.keep hb.size (hb.block _ (by omega)) (hb.block _ (by omega)) (fun g hg => hb.block g (h.row g hg).2)
theorem BW.drewN {W : World} {base bw bm : Nat} {o : List Nd} (h : BW W base bw bm o) (k : Nat) : BW (W.drewN k) base bw bm o :=
  h.keep (Nat.le_refl _) rfl rfl (fun _ _ => rfl)
/-- a block that is no part of the builder -/
structure AsideB (W : World) (bw bm g : Nat) : Prop where
  lt : g < W.heap.size
  n1 : g ≠ bw
  n3 : g ≠ bm
  row : some g ≠ rowB W bw
theorem AsideB.step {W W' : World} {bw bm g : Nat} (h : AsideB W bw bm g) (hF : Fb bw bm W W') : W'.heap[g]? = W.heap[g]? ∧ AsideB W' bw bm g := by
  refine ⟨hF.block g h.lt h.n1 h.n3 h.row, Nat.lt_of_lt_of_le h.lt hF.size, h.n1, h.n3, ?_⟩
  rcases hF.row with e | ⟨k, e, hl⟩
  · rw [e]; exact h.row
  · rw [e]; intro e2; injection e2; have := h.lt; omega
theorem AsideB.low {W W' : World} {bw bm g : Nat} (h : AsideB W bw bm g) (hb : Below W.heap.size W W') (hw : bw < W.heap.size) : AsideB W' bw bm g :=
  ⟨Nat.lt_of_lt_of_le h.lt hb.size, h.n1, h.n3, by rw [rowB_same (hb.block bw hw)]; exact h.row⟩
theorem AsideB.new {W W' : World} {base bw bm g : Nat} {o : List Nd} (hS : BW W base bw bm o) (hb : Below W.heap.size W W') (h1 : W.heap.size ≤ g) (h2 : g < W'.heap.size) : AsideB W' bw bm g := by
  have lw := hS.lw
  have lm := hS.lm
  have lb := hS.lb
  refine ⟨h2, by omega, by omega, ?_⟩
  rw [rowB_same (hb.block bw (by omega))]
  intro e
  have := (hS.row g e.symm).2
  omega
theorem AsideB.set {W : World} {bw bm g g2 j : Nat} (h : AsideB W bw bm g) (hg : g2 ≠ bw) (v : Value) : AsideB (W.setCell ⟨g2, j, none⟩ v) bw bm g :=
  ⟨by simpa using h.lt, h.n1, h.n3, by rw [rowB_same (Below.heap_setCell W ⟨g2, j, none⟩ v bw hg.symm)]; exact h.row⟩
theorem AsideB.drewN {W : World} {bw bm g : Nat} (h : AsideB W bw bm g) (k : Nat) : AsideB (W.drewN k) bw bm g := ⟨h.lt, h.n1, h.n3, h.row⟩
theorem BW.other {W : World} {base bw bm g j : Nat} {o : List Nd} (h : BW W base bw bm o) (ha : AsideB W bw bm g) (v : Value) : BW (W.setCell ⟨g, j, none⟩ v) base bw bm o :=
  h.keep (by simp) (Below.heap_setCell _ _ _ _ ha.n1.symm) (Below.heap_setCell _ _ _ _ ha.n3.symm) (fun k hk => Below.heap_setCell _ _ _ _ (fun e => ha.row (by rw [hk, e])))
theorem step_appB {ops : Array Oper} {o : Oper} {a : Act} {K : Act → World → Prop} {Q : Exit → Act → World → Prop} {E : Prop} {out : List Nd} (n : Nd) (W : World) (hgd : o.guard = none) (s x : Operand)
    (ho : o.op = .call { callee := .builtin .append, args := #[s, x], argTypes := #[22, 22] }) (base b : Nat) (v : Value)
    (hs : a.eval s = v) (hown : W.ownsRow base 62 6 v out.length (nds out)) (hx : a.eval x = .slice (some ⟨b, 0, none⟩) 1 1)
    (hc : ∀ j u, (ndC n)[j]? = some u → W.cell? ⟨b, j, none⟩ = some u) (hl : out.length ≤ 1000000) (hbase : base ≤ W.heap.size)
    (h : ∀ g cap w', w'.ownsRow base 62 6 (.slice (some ⟨g, 0, none⟩) (out.length + 1) cap) (out ++ [n]).length (nds (out ++ [n])) → W.grownBy w' v.ownBlock → (v.ownBlock = some g ∨ W.heap.size ≤ g) → K (a.put o.dst (.slice (some ⟨g, 0, none⟩) (out.length + 1) cap)) w') :
    if Region.wanted o (yielded ops a.tmps) = true then Oper.wp Tryd.prog o a W K Q else E := by
  obtain ⟨i0, hi, hz0, hz1, hz2⟩ := info_parts Tryd.infoNode
  refine step_append_lies W hgd s x 22 ho base 62 i0 _ 6 48 Tryd.underlying22 hi hz0 hz1 hz2 rfl (by decide) v out.length (nds out) hs hown ⟨b, 0, none⟩ 1 1 (ndC n) hx rfl ?_ ?_ (by decide) (by unfold maxLen; omega) (by omega) hbase _ rfl ?_
  · intro j u hj
    have := hc j u hj
    rw [addr_zero]
    exact this
  · intro u hu
    simp only [ndC, List.mem_cons, List.not_mem_nil, or_false] at hu
    rcases hu with rfl | rfl | rfl | rfl | rfl | rfl <;> rfl
  · intro g cap w' h1 h2 h3 _
    refine h g cap w' ?_ h2 (h3.imp id (fun e => by omega))
    rw [nds_append, List.length_append]
    have e : nds [n] = ndC n := by simp [nds]
    rw [e]
    exact h1
set_option maxRecDepth 100000 in
set_option maxHeartbeats 4000000 in
theorem bAdd_old (x : Nd) (base bw bm : Nat) (q : List Nd) (w : World) (hS : BW w base bw bm q) (hin : x ∈ q) :
    Calls Tryd.prog 82 #[.pointer (some ⟨bw, 0, none⟩), nv x] w fun e w' => e = .returned (.int .i64 (q.idxOf x : Int)) ∧ Below w.heap.size w w' := by
  obtain ⟨D, hown, hM⟩ := hS.map
  have hm := hS.mp
  have lw : bw < w.heap.size := Nat.lt_of_lt_of_le hS.lw hS.lb
  have HB : Hid (∀ o, Below w.heap.size w (w.alloc o)) := Lib.hid (fun o => (Below.refl _ w).alloc (Nat.le_refl _) o)
  have hL : ∀ W : World, W.heap[bm]? = w.heap[bm]? → (Instr.lookup 110 (.map (some bm)) (nv x) true).run Tryd.prog W = .ok (.tuple #[.int .i64 (q.idxOf x : Int), .bool true]) W := fun W h => look_old (ownsMap_keep hown h) hM hin
  have lm : bm < w.heap.size := Nat.lt_of_lt_of_le hS.lm hS.lb
  have hL1 : ∀ (o : Obj) (k : Nat), (Instr.lookup 110 (.map (some bm)) (nv x) true).run Tryd.prog ((w.alloc o).drewN k) = .ok (.tuple #[.int .i64 (q.idxOf x : Int), .bool true]) ((w.alloc o).drewN k) := fun o k => hL _ (by show (w.alloc o).heap[bm]? = _; exact Below.heap_alloc w o bm lm)
  unfold nv at hL1 ⊢
  generalize q.idxOf x = z at *
  clear hS hin hL hM hown
  go_enter Tryd.func82, Tryd.ntmps82
  go_wp2
  go_quiet (fail)
  go_wp2
  go_ret
  exact ⟨rfl, below_drewN (HB.out _) _⟩
theorem BW.put_end {w w3 w4 : World} {base bw bm g3 c3 : Nat} {q : List Nd} {x : Nd} {D : DataW Unit} {row : Option Nat} (h : BW w base bw bm q) (hb3 : Below 0 w w3) (hk : ∀ g, g < w.heap.size → g ≠ bm → w3.heap[g]? = w.heap[g]?)
    (hM : MapOf q D) (hx : x ∉ q) (hw : NdW x) (ho3 : w3.ownsMap Tryd.prog 62 (plainElem (H := Unit) Tryd.prog 3) bm (q.length + 1) (D.put (keyN x) (.lit (.int .i64 (q.length : Int)))))
    (hrow : rowB w bw = row) (ho : w4.ownsRow base 62 6 (.slice (some ⟨g3, 0, none⟩) (q.length + 1) c3) (q ++ [x]).length (nds (q ++ [x]))) (hg : w3.grownBy w4 row)
    (hr : (Value.slice (some ⟨g3, 0, none⟩) (q.length + 1) c3).ownBlock = row ∨ ∃ g, (Value.slice (some ⟨g3, 0, none⟩) (q.length + 1) c3).ownBlock = some g ∧ w.heap.size ≤ g) :
    BW (w4.setCell ⟨bw, 0, none⟩ (.slice (some ⟨g3, 0, none⟩) (q.length + 1) c3)) base bw bm (q ++ [x]) ∧ Fb bw bm w (w4.setCell ⟨bw, 0, none⟩ (.slice (some ⟨g3, 0, none⟩) (q.length + 1) c3)) := by
  have lw := h.lw
  have lm := h.lm
  have lb := h.lb
  have n2 := h.n2
  have hs3 := hb3.size
  have hrl : ∀ g, row = some g → base ≤ g := fun g e => (h.row g (hrow.trans e)).1
  have hb4 : ∀ g, g < base → g ≠ bm → w4.heap[g]? = w.heap[g]? := fun g h1 h2 => (hg.block g (by omega) (fun e => by have := hrl g e.symm; omega)).trans (hk g (by omega) h2)
  have hbw := hb4 bw lw n2
  have hbm : (w4.setCell ⟨bw, 0, none⟩ (.slice (some ⟨g3, 0, none⟩) (q.length + 1) c3)).heap[bm]? = w3.heap[bm]? := (Below.heap_setCell _ _ _ _ (by show bm ≠ bw; omega)).trans (hg.block bm (by omega) (fun e => by have := hrl bm e.symm; omega))
  obtain ⟨A2, c2, h2, _⟩ := h.out
  have hc2 := (World.cell?_of_block (a := ⟨bw, 0, none⟩) hbw).trans h2
  have hk2 := World.cell?_setCell_same w4 ⟨bw, 0, none⟩ (.slice (some ⟨g3, 0, none⟩) (q.length + 1) c3) hc2
  have hj : ∀ j v, j ≠ 0 → w.cell? ⟨bw, j, none⟩ = some v → (w4.setCell ⟨bw, 0, none⟩ (.slice (some ⟨g3, 0, none⟩) (q.length + 1) c3)).cell? ⟨bw, j, none⟩ = some v := fun j v hj hv => by
    rw [World.cell?_setCell_other w4 ⟨bw, 0, none⟩ ⟨bw, j, none⟩ _ (fun e2 => by have h9 := congrArg Addr.off e2; dsimp only at h9; omega)]
    exact (World.cell?_of_block (a := ⟨bw, j, none⟩) hbw).trans hv
  have hsz : w.heap.size ≤ (w4.setCell ⟨bw, 0, none⟩ (.slice (some ⟨g3, 0, none⟩) (q.length + 1) c3)).heap.size := by have := hg.size; simp; omega
  have hlen : (q ++ [x]).length = q.length + 1 := by simp
  refine ⟨⟨lw, lm, n2, by omega, ⟨_, c3, by rw [hlen]; exact hk2, ?_⟩, ?_, hj 1 _ (by decide) h.mp, ⟨_, ?_, hM.put hw hx⟩⟩, ?_⟩
  · rw [hlen]
    have := ownsRow_setCell_below ho (a := ⟨bw, 0, none⟩) lw (.slice (some ⟨g3, 0, none⟩) (q.length + 1) c3)
    rw [hlen] at this
    exact this
  · rw [World.frozen?_setCell]
    exact (World.frozen?_of_block (a := ⟨bw, 0, none⟩) hbw).trans h.fout
  · rw [hlen]
    exact ownsMap_keep ho3 hbm
  · refine ⟨hg.os.trans hb3.os, hg.tape.trans hb3.tape, hg.output.trans hb3.output, hsz, fun g hg1 h5 h7 h8 => ?_, ?_⟩
    · rw [hrow] at h8
      exact (Below.heap_setCell w4 _ _ g h5).trans ((hg.block g (by omega) h8).trans (hk g hg1 h7))
    · rw [hrow, rowB_of hk2]
      exact hr
set_option maxRecDepth 100000 in
set_option maxHeartbeats 4000000 in
theorem bAdd_new (x : Nd) (base bw bm : Nat) (q : List Nd) (w : World) (hS : BW w base bw bm q) (hin : x ∉ q) (hw : NdW x) (hm : q.length ≤ 1000000) :
    Calls Tryd.prog 82 #[.pointer (some ⟨bw, 0, none⟩), nv x] w fun e w' => e = .returned (.int .i64 (q.length : Int)) ∧ BW w' base bw bm (q ++ [x]) ∧ Fb bw bm w w' := by
  obtain ⟨D, hown, hM⟩ := hS.map
  obtain ⟨A2, c2, h2, hrow⟩ := hS.out
  have hm3 := hS.mp
  have lb := hS.lb
  have lw : bw < w.heap.size := Nat.lt_of_lt_of_le hS.lw hS.lb
  have lm : bm < w.heap.size := Nat.lt_of_lt_of_le hS.lm hS.lb
  have hfo := hS.fout
  have HS := Lib.hid hS
  have hL0 := fun (o : Obj) => look_new (ownsMap_keep hown (Below.heap_alloc w o bm lm)) hM hw hin
  obtain ⟨z, hL1⟩ := hL0 (.cells #[.int .i64 x.op, .int .i64 x.i, .int .i64 x.e, .int .i64 x.g, .int .i64 x.x, .int .i64 x.y] 62)
  have HB : Hid (Below w.heap.size w (w.alloc (.cells #[.int .i64 x.op, .int .i64 x.i, .int .i64 x.e, .int .i64 x.g, .int .i64 x.x, .int .i64 x.y] 62))) := Lib.hid ((Below.refl _ w).alloc (Nat.le_refl _) _)
  have HBX := Lib.hid (Box.made w x 62)
  have HOWN := Lib.hid hown
  have HM := Lib.hid hM
  have HW := Lib.hid hw
  have HR := Lib.hid hrow
  have HI := Lib.hid hin
  unfold nv at hL1 ⊢
  clear hS hin hL0 hM hown hw hrow
  go_enter Tryd.func82, Tryd.ntmps82
  go_wp2
  go_quiet (fail)
  go_wp2
  have HB0 : Hid (Below w.heap.size w ((w.alloc (.cells #[.int .i64 x.op, .int .i64 x.i, .int .i64 x.e, .int .i64 x.g, .int .i64 x.x, .int .i64 x.y] 62)).drewN nq)) := Lib.hid (below_drewN HB.out _)
  have HBX0 : Hid (Box ((w.alloc (.cells #[.int .i64 x.op, .int .i64 x.i, .int .i64 x.e, .int .i64 x.g, .int .i64 x.x, .int .i64 x.y] 62)).drewN nq) w.heap.size x) := Lib.hid HBX.out
  have hsz0 : w.heap.size < ((w.alloc (.cells #[.int .i64 x.op, .int .i64 x.i, .int .i64 x.e, .int .i64 x.g, .int .i64 x.x, .int .i64 x.y] 62)).drewN nq).heap.size := by show w.heap.size < (w.alloc _).heap.size; simp
  clear hL1 HB HBX
  generalize (w.alloc (.cells #[.int .i64 x.op, .int .i64 x.i, .int .i64 x.e, .int .i64 x.g, .int .i64 x.x, .int .i64 x.y] 62)).drewN nq = w0 at *
  obtain ⟨w3, hrun, hown3, hturn⟩ := World.ownsMap.store (w := w0.drew) (ownsMap_keep HOWN.out (show w0.drew.heap[bm]? = w.heap[bm]? from HB0.out.block bm lm)) nodeLaw Tryd.underlying110 (by unfold maxLen; omega) (key_nd HW.out) (plainElem_int (H := Unit) Tryd.underlying3 (show (Lit.int .i64 (q.length : Int)).wf = true from WalkArith.wf_i64 (by omega)))
  have hc3 := (HB0.out.cell (p := ⟨bw, 1, none⟩) lw).trans hm3
  obtain ⟨b0, b1, b2, b3, b4, b5, bf⟩ := HBX0.out
  clear bf
  unfold nv at hrun
  have HBK : Hid (∀ g, g < w.heap.size → g ≠ bm → w3.heap[g]? = w.heap[g]?) := Lib.hid (fun g h1 h2 => (turned_cell hturn (show g < w0.heap.size by omega) h2).trans (HB0.out.block g h1))
  have HG := Lib.hid hturn.grown
  have HO3 := Lib.hid hown3
  clear hown3 hturn
  go_region
  clear hrun b0 b1 b2 b3 b4 b5 hc3
  have hsz3 : w.heap.size < w3.heap.size := Nat.lt_of_lt_of_le hsz0 HG.out.size
  obtain ⟨b0, b1, b2, b3, b4, b5, bf⟩ := HBX0.out.keep (W' := w3) (HG.out.block w.heap.size hsz0 (fun e => by injection e; omega))
  clear bf
  have hc2 : w3.cell? ⟨bw, 0, none⟩ = some (.slice A2 q.length c2) := (World.cell?_of_block (a := ⟨bw, 0, none⟩) (HBK.out bw lw HS.out.n2)).trans h2
  have hf2 : w3.frozen? ⟨bw, 0, none⟩ = false := (World.frozen?_of_block (a := ⟨bw, 0, none⟩) (HBK.out bw lw HS.out.n2)).trans hfo
  have hrowlt : Hid (∀ g, (Value.slice A2 q.length c2).ownBlock = some g → base ≤ g ∧ g < w.heap.size) := Lib.hid (fun g hg => HR.out.lt g hg)
  have hbmr : Hid (∀ g, (Value.slice A2 q.length c2).ownBlock = some g → g ≠ bm) := Lib.hid (fun g hg e => by have := (hrowlt.out g hg).1; have := HS.out.lm; omega)
  have hO0 : Hid (w3.ownsRow base 62 6 (.slice A2 q.length c2) q.length (nds q)) := Lib.hid (own_keep1 HR.out (fun g hg => HBK.out g (hrowlt.out g hg).2 (hbmr.out g hg)))
  have hO1 : Hid (∀ o, (w3.drew.alloc o).ownsRow base 62 6 (.slice A2 q.length c2) q.length (nds q)) := Lib.hid (fun o => own_keep1 hO0.out (fun g hg => Below.heap_alloc w3.drew o g (by show g < w3.heap.size; have := (hrowlt.out g hg).2; omega)))
  have hO2 : Hid (∀ o, base ≤ (w3.drew.alloc o).heap.size) := Lib.hid (fun o => by have : (w3.drew.alloc o).heap.size = w3.heap.size + 1 := by simp
                                                                                   omega)
  have hO3 : Hid (∀ j u, (ndC x)[j]? = some u → (w3.drew.alloc (.cells #[.int .i64 x.op, .int .i64 x.i, .int .i64 x.e, .int .i64 x.g, .int .i64 x.x, .int .i64 x.y] 62)).cell? ⟨w3.heap.size, j, none⟩ = some u) := Lib.hid (fun j u hj => by
    have hh := heap_alloc_new w3.drew (.cells #[.int .i64 x.op, .int .i64 x.i, .int .i64 x.e, .int .i64 x.g, .int .i64 x.x, .int .i64 x.y] 62)
    have := Lib.cell_of_heap hh j
    rw [show (⟨w3.heap.size, j, none⟩ : Addr) = ⟨w3.drew.heap.size, j, none⟩ from rfl, this, ← hj]
    simp [ndC])
  have HNE : Hid (some bw ≠ (Value.slice A2 q.length c2).ownBlock) := Lib.hid (fun e => by have := (hrowlt.out bw e.symm).1; have := HS.out.lw; omega)
  have HWW : Hid (∀ o w4, (w3.drew.alloc o).grownBy w4 (Value.slice A2 q.length c2).ownBlock → w3.grownBy w4 (Value.slice A2 q.length c2).ownBlock ∧ w4.cell? ⟨bw, 0, none⟩ = some (.slice A2 q.length c2) ∧ w4.frozen? ⟨bw, 0, none⟩ = false) := Lib.hid (fun o w4 hg => by
    have hb : Below w3.heap.size w3 (w3.drew.alloc o) := ((Below.refl _ w3).drew).alloc (Nat.le_refl _) o
    have h4 : w3.grownBy w4 (Value.slice A2 q.length c2).ownBlock := ⟨hg.os.trans hb.os, hg.tape.trans hb.tape, hg.output.trans hb.output, Nat.le_trans hb.size hg.size, fun g hg1 hg2 => (hg.block g (Nat.lt_of_lt_of_le hg1 hb.size) hg2).trans (hb.block g hg1)⟩
    exact ⟨h4, (h4.cell_far ⟨bw, 0, none⟩ (by show bw < w3.heap.size; omega) HNE.out).trans hc2, (h4.frozen_far ⟨bw, 0, none⟩ (by show bw < w3.heap.size; omega) HNE.out).trans hf2⟩)
  have e0 := World.new_ne w3 _ hc2
  have ebw : bw < w3.heap.size := by omega
  have ebn : bw ≠ w3.heap.size := by omega
  go_wp2
  go_region_law
    ((refine step_appB x _ (by rfl) _ _ (by rfl) base _ _ (by rfl) (hO1.out _) (by rfl) hO3.out hm (hO2.out _) ?_; intro g3 c3 w4 ho3 hg3 hr3; obtain ⟨hg4, k0, k1⟩ := HWW.out _ _ hg3; have HH := Lib.hid (And.intro ho3 (And.intro hg4 (row_new (n := q.length + 1) (c := c3) hr3 (show w.heap.size ≤ (w3.drew.alloc _).heap.size by simp; omega)))); clear ho3 hg3 hg4 hr3))
  all_goals clear b0 b1 b2 b3 b4 b5 hc2 hf2 e0 ebw ebn
  all_goals go_wp2
  all_goals go_ret
  all_goals exact ⟨ret_i64 (by first | rfl | (simp; done) | omega), HS.out.put_end ⟨HG.out.os.trans HB0.out.os, HG.out.tape.trans HB0.out.tape, HG.out.output.trans HB0.out.output, Nat.le_of_lt hsz3, fun k hk => absurd hk (by omega)⟩ HBK.out HM.out HI.out HW.out HO3.out (rowB_of h2) HH.out.1 HH.out.2.1 HH.out.2.2⟩
theorem bAdd_any (x : Nd) (base bw bm : Nat) (q : List Nd) (w : World) (hS : BW w base bw bm q) (hw : NdW x) (hm : q.length ≤ 1000000) :
    Calls Tryd.prog 82 #[.pointer (some ⟨bw, 0, none⟩), nv x] w fun e w' => e = .returned (.int .i64 ((putNd q x).1 : Nat)) ∧ BW w' base bw bm (putNd q x).2 ∧ Fb bw bm w w' := by
  by_cases hin : x ∈ q
  · refine (bAdd_old x base bw bm q w hS hin).mono ?_
    rintro e w' ⟨rfl, hb⟩
    have e1 : putNd q x = (q.idxOf x, q) := by unfold putNd; rw [if_pos hin]
    rw [e1]
    exact ⟨rfl, hS.below hb, Fb.of_below hb (Nat.lt_of_lt_of_le hS.lw hS.lb)⟩
  · refine (bAdd_new x base bw bm q w hS hin hw hm).mono ?_
    rintro e w' ⟨rfl, h1, h2⟩
    have e1 : putNd q x = (q.length, q ++ [x]) := by unfold putNd; rw [if_neg hin]
    rw [e1]
    exact ⟨rfl, h1, h2⟩
end Go.Proofs.YtkkkomkljpolbaaDoor
/- Layer 8: the tables of operands and of duals; a node with the numbers of its operands. -/
namespace Go.Proofs.YtkkkomkljpolbaaDoor
open Go.RowKit Go.Proofs.Ws Go.Maps
set_option maxRecDepth 100000
structure EnvR (W : World) (B : Nat) : Prop where
  ops : ∀ k : Nat, k < 22 → W.cell? ⟨1, k, none⟩ = some (.int .i64 (shO (k : Int)))
  dls : ∀ k : Nat, k < 22 → W.cell? ⟨2, k, none⟩ = some (.int .i64 (dualOf (k : Int)))
  lo : 1 < B
  ld : 2 < B
theorem EnvR.below {W W' : World} {B : Nat} (h : EnvR W B) (hb : Below B W W') : EnvR W' B :=
  ⟨fun k hk => (hb.cell (p := ⟨1, k, none⟩) h.lo).trans (h.ops k hk), fun k hk => (hb.cell (p := ⟨2, k, none⟩) h.ld).trans (h.dls k hk), h.lo, h.ld⟩
theorem EnvR.up {W : World} {B B' : Nat} (h : EnvR W B) (hb : B ≤ B') : EnvR W B' := ⟨h.ops, h.dls, Nat.lt_of_lt_of_le h.lo hb, Nat.lt_of_lt_of_le h.ld hb⟩
theorem ivq_at {nu : List Nat} {k : Nat} (h : k < nu.length) : (iv nu)[k]? = some (.int .i64 ((nu.getD k 0 : Nat) : Int)) := by
  unfold iv
  rw [List.getElem?_map, List.getElem?_eq_getElem h, List.getD_eq_getElem?_getD, List.getElem?_eq_getElem h]
  rfl
theorem ivq_len (nu : List Nat) : (iv nu).length = nu.length := by unfold iv; rw [List.length_map]
theorem iv_read {w : World} {B n : Nat} {A : Option Addr} {nu : List Nat} (h : Reads w B 1 A n (iv nu)) {k : Nat} (hk : k < n) : ∃ ad, A = some ad ∧ ad.block < B ∧ w.cell? (ad.add k) = some (.int .i64 ((nu.getD k 0 : Nat) : Int)) := by
  obtain ⟨ad, u, h1, h2, h3, h4⟩ := h.at_ hk
  have hl : k < nu.length := by
    have := (List.getElem?_eq_some_iff.1 h3).1
    rwa [ivq_len] at this
  rw [ivq_at hl] at h3
  injection h3 with h3
  exact ⟨ad, h1, h2, by rw [h4, h3]⟩
end Go.Proofs.YtkkkomkljpolbaaDoor
/- Layer 8: the builder's own functions. -/
namespace Go.Proofs.YtkkkomkljpolbaaDoor
open Go.RowKit Go.Proofs.Ws Go.Maps
set_option maxRecDepth 100000
/-- the builder and the tables; its nodes' operators are known -/
structure Bu (B base bw bm : Nat) (W : World) (o : List Nd) : Prop where
  st : BW W base bw bm o
  env : EnvR W B
  b1 : B ≤ bw
  b2 : B ≤ bm
  kn : knownL o
  bd : opsL o
theorem Bu.low {B base bw bm : Nat} {W W' : World} {o : List Nd} (h : Bu B base bw bm W o) (hF : Fb bw bm W W') : Below B W W' := by
  have h1 := h.st.lw
  have h2 := h.st.lb
  have h3 := h.b1
  exact hF.low (by omega) h.b1 h.b2 (fun g hg => by have := (h.st.row g hg).1; omega)
theorem Bu.size {B base bw bm : Nat} {W : World} {o : List Nd} (h : Bu B base bw bm W o) : B ≤ W.heap.size := by
  have h1 := h.st.lw
  have h2 := h.st.lb
  have h3 := h.b1
  omega
theorem Bu.next {B base bw bm : Nat} {W W' : World} {o o' : List Nd} (h : Bu B base bw bm W o) (hS : BW W' base bw bm o') (hF : Fb bw bm W W') (hk : knownL o') (ho : opsL o') : Bu B base bw bm W' o' :=
  ⟨hS, h.env.below (h.low hF), h.b1, h.b2, hk, ho⟩
theorem Bu.below {B base bw bm : Nat} {W W' : World} {o : List Nd} (h : Bu B base bw bm W o) (hb : Below W.heap.size W W') : Bu B base bw bm W' o :=
  ⟨h.st.below hb, h.env.below (hb.mono h.size), h.b1, h.b2, h.kn, h.bd⟩
theorem Bu.lwB {B base bw bm : Nat} {W : World} {o : List Nd} (h : Bu B base bw bm W o) : bw < W.heap.size := Nat.lt_of_lt_of_le h.st.lw h.st.lb
/-- the node at a place, as the loads see it -/
theorem Bu.at_ {B base bw bm : Nat} {W : World} {o : List Nd} (h : Bu B base bw bm W o) {k : Nat} (hk : k < o.length) {n : Nd} (hn : o.getD k nd0 = n) : ∃ ad c2, W.cell? ⟨bw, 0, none⟩ = some (.slice (some ad) o.length c2) ∧ ad.block < W.heap.size ∧ W.cell? (ad.add (k * 6)) = some (.int .i64 n.op) ∧
    W.cell? ⟨(ad.add (k * 6)).block, (ad.add (k * 6)).off + (0 + 1), none⟩ = some (.int .i64 n.i) ∧ W.cell? ⟨(ad.add (k * 6)).block, (ad.add (k * 6)).off + (1 + 1), none⟩ = some (.int .i64 n.e) ∧
    W.cell? ⟨(ad.add (k * 6)).block, (ad.add (k * 6)).off + (2 + 1), none⟩ = some (.int .i64 n.g) ∧ W.cell? ⟨(ad.add (k * 6)).block, (ad.add (k * 6)).off + (3 + 1), none⟩ = some (.int .i64 n.x) ∧ W.cell? ⟨(ad.add (k * 6)).block, (ad.add (k * 6)).off + (4 + 1), none⟩ = some (.int .i64 n.y) := by
  subst hn
  obtain ⟨A2, c2, h1, h2⟩ := h.st.out
  obtain ⟨ad, rfl, hb, k0, k1, k2, k3, k4, k5⟩ := (Reads.of_own h2).nd_at hk
  exact ⟨ad, c2, h1, hb, k0, add_cell k1, add_cell k2, add_cell k3, add_cell k4, add_cell k5⟩
/-- a node that may be added -/
structure NodeIn (o : List Nd) (n : Nd) : Prop where
  kn : known n.op = true
  ops : opsOk n o.length
  w : NdW n
theorem knownL_put {o : List Nd} (h : knownL o) {n : Nd} (hn : known n.op = true) : knownL (putNd o n).2 := by
  unfold putNd
  split
  · exact h
  · intro i hi
    have hi2 : i < o.length + 1 := by simpa using hi
    by_cases e : i = o.length
    · subst e
      rw [List.getD_eq_getElem?_getD]
      simp [hn]
    · have := h i (by omega)
      rw [List.getD_eq_getElem?_getD, List.getElem?_append_left (by omega), ← List.getD_eq_getElem?_getD]
      exact this
theorem add_any {B base bw bm : Nat} {W : World} {o : List Nd} (h : Bu B base bw bm W o) {x : Nd} (hn : NodeIn o x) (hm : o.length ≤ 1000000) :
    Calls Tryd.prog 82 #[.pointer (some ⟨bw, 0, none⟩), nv x] W fun e w' => e = .returned (.int .i64 ((putNd o x).1 : Nat)) ∧ Bu B base bw bm w' (putNd o x).2 ∧ Fb bw bm W w' := by
  refine (bAdd_any x base bw bm o W h.st hn.w hm).mono ?_
  rintro e w' ⟨rfl, h1, h2⟩
  exact ⟨rfl, h.next h1 h2 (knownL_put h.kn hn.kn) (opsL_put h.bd hn.ops), h2⟩
theorem w_nat {k : Nat} (h : k ≤ 2000000) : (Lit.int .i64 (k : Int)).wf = true := WalkArith.wf_i64 (by omega)
theorem w_op {op : Int} (h : known op = true) : (Lit.int .i64 op).wf = true := by
  unfold known at h
  simp only [Bool.and_eq_true, decide_eq_true_eq] at h
  exact WalkArith.wf_i64 (by omega)
theorem jN_wide {op : Int} {x y : Nat} (hk : known op = true) (hx : x ≤ 2000000) (hy : y ≤ 2000000) : NdW (jN op x y) := ⟨w_op hk, w_nat (k := 0) (by omega), w_nat (k := 0) (by omega), w_nat (k := 0) (by omega), w_nat hx, w_nat hy⟩
theorem jN_not {o : List Nd} {x : Nat} (hx : x < o.length) (hm : o.length ≤ 1000000) : NodeIn o (jN 4 x 0) := by
  refine ⟨by show known 4 = true; decide, ⟨?_, ?_⟩, jN_wide (by decide) (by omega) (by omega)⟩
  · rw [if_pos (show usesX (jN 4 x 0).op = true from (by decide : usesX 4 = true))]
    show 0 ≤ (x : Int) ∧ (x : Int) < _
    omega
  · rw [if_neg (show ¬ usesY (jN 4 x 0).op = true from (by decide : ¬ usesY 4 = true))]
    rfl
set_option maxHeartbeats 4000000 in
theorem bJoin_any {B base bw bm : Nat} {W : World} {o : List Nd} (h : Bu B base bw bm W o) {op : Int} {x y : Nat} (hn : NodeIn o (jN op x y)) (hm : o.length ≤ 1000000) :
    Calls Tryd.prog 132 #[.pointer (some ⟨bw, 0, none⟩), .int .i64 op, .int .i64 (x : Int), .int .i64 (y : Int)] W fun e w' => e = .returned (.int .i64 ((jPut o op x y).1 : Nat)) ∧ Bu B base bw bm w' (jPut o op x y).2 ∧ Fb bw bm W w' := by
  have H := Lib.hid (add_any h hn hm)
  unfold nv jN at H
  unfold jPut jN
  generalize putNd o ⟨op, 0, 0, 0, (x : Int), (y : Int)⟩ = r at *
  clear h hn
  go_enter Tryd.func132, Tryd.ntmps132
  go_wp2_with fail
  refine (H.out).mono ?_
  rintro e w1 ⟨rfl, h1, h2⟩
  have HH := Lib.hid (And.intro h1 h2)
  clear h1 h2
  go_wp2
  go_ret
  exact ⟨rfl, HH.out⟩
set_option maxHeartbeats 4000000 in
theorem bNot_any {B base bw bm : Nat} {W : World} {o : List Nd} (h : Bu B base bw bm W o) {x : Nat} (hx : x < o.length) (hm : o.length ≤ 1000000) :
    Calls Tryd.prog 133 #[.pointer (some ⟨bw, 0, none⟩), .int .i64 (x : Int)] W fun e w' => e = .returned (.int .i64 ((nPut o x).1 : Nat)) ∧ Bu B base bw bm w' (nPut o x).2 ∧ Fb bw bm W w' := by
  have H := Lib.hid (bJoin_any h (jN_not hx hm) hm)
  have e : jPut o 4 x 0 = nPut o x := rfl
  rw [e] at H
  generalize nPut o x = r at *
  clear h e hx hm
  go_enter Tryd.func133, Tryd.ntmps133
  go_wp2_with fail
  refine (H.out).mono ?_
  rintro e w1 ⟨rfl, h1, h2⟩
  have HH := Lib.hid (And.intro h1 h2)
  clear h1 h2
  go_wp2
  go_ret
  exact ⟨rfl, HH.out⟩
set_option maxHeartbeats 4000000 in
theorem bNeg_any {B base bw bm : Nat} {W : World} {o : List Nd} (h : Bu B base bw bm W o) {x : Nat} (hx : x < o.length) (hm : o.length ≤ 1000000) :
    Calls Tryd.prog 81 #[.pointer (some ⟨bw, 0, none⟩), .int .i64 (x : Int)] W fun e w' => e = .returned (.int .i64 ((negP o x).1 : Nat)) ∧ Bu B base bw bm w' (negP o x).2 ∧ Fb bw bm W w' := by
  obtain ⟨n, hn⟩ : ∃ n, o.getD x nd0 = n := ⟨_, rfl⟩
  obtain ⟨ad, c2, k0, kb, k1, k2, k3, k4, k5, k6⟩ := h.at_ hx hn
  have hlw := h.lwB
  have HS := Lib.hid h
  have hops := h.bd x hx
  rw [hn] at hops
  have HN : Hid (∀ W', Below W.heap.size W W' → Calls Tryd.prog 133 #[.pointer (some ⟨bw, 0, none⟩), .int .i64 (x : Int)] W' fun e w' => e = .returned (.int .i64 ((nPut o x).1 : Nat)) ∧ Bu B base bw bm w' (nPut o x).2 ∧ Fb bw bm W w') := Lib.hid (fun W' hb => (bNot_any (h.below hb) hx hm).mono (fun e w' ⟨h1, h2, h3⟩ => ⟨h1, h2, (Fb.of_below hb hlw).trans h3⟩))
  have HA := Lib.hid (fun a => (Below.refl W.heap.size W).alloc (Nat.le_refl _) a)
  unfold negP
  rw [hn]
  by_cases h4 : n.op = 4
  · rw [if_pos h4]
    have hx0 : 0 ≤ n.x := (opsOk_x hops (by rw [h4]; decide)).1
    have e1 : ((n.x.toNat : Nat) : Int) = n.x := Int.toNat_of_nonneg hx0
    clear h hn HN hops
    generalize o.length = l at *
    obtain ⟨op, i, e, g, a, b⟩ := n
    dsimp only at *
    subst h4
    generalize a.toNat = q at *
    subst e1
    go_enter Tryd.func81, Tryd.ntmps81
    go_wp2
    go_ret
    exact ⟨rfl, HS.out.below (HA.out _), Fb.of_below (HA.out _) hlw⟩
  · rw [if_neg h4]
    clear h hn hops
    generalize o.length = l at *
    generalize nPut o x = r at *
    obtain ⟨op, i, e, g, a, b⟩ := n
    dsimp only at *
    go_enter Tryd.func81, Tryd.ntmps81
    go_wp2_with fail
    refine (HN.out _ (HA.out _)).mono ?_
    rintro e w1 ⟨rfl, h1, h2⟩
    have HH := Lib.hid (And.intro h1 h2)
    clear h1 h2
    go_wp2
    go_ret
    exact ⟨rfl, HH.out⟩
end Go.Proofs.YtkkkomkljpolbaaDoor
/- Layer 8: rewriting node by node. -/
namespace Go.Proofs.YtkkkomkljpolbaaDoor
open Go.RowKit Go.Proofs.Ws Go.Maps
set_option maxRecDepth 100000
/-- a list of nodes in blocks aside of the builder -/
structure RdA (W : World) (bw bm : Nat) (A : Option Addr) (n : Nat) (q : List Nd) : Prop where
  rd : Reads W W.heap.size 6 A n (nds q)
  as_ : ∀ ad, A = some ad → 0 < n → AsideB W bw bm ad.block
theorem RdA.step {W W' : World} {bw bm n : Nat} {A : Option Addr} {q : List Nd} (h : RdA W bw bm A n q) (hF : Fb bw bm W W') : RdA W' bw bm A n q := by
  refine ⟨⟨h.rd.1, fun hn => ?_⟩, fun ad e hn => ((h.as_ ad e hn).step hF).2⟩
  obtain ⟨ad, e, hb, hc⟩ := h.rd.2 hn
  have hk := ((h.as_ ad e hn).step hF).1
  exact ⟨ad, e, Nat.lt_of_lt_of_le hb hF.size, fun j u hu => (World.cell?_of_block (by rw [block_of_add]; exact hk)).trans (hc j u hu)⟩
theorem RdA.of_new {w W : World} {B base bw bm n : Nat} {A : Option Addr} {q o : List Nd} (h : Bu B base bw bm w o) (hb : Below w.heap.size w W) (hr : Reads W W.heap.size 6 A n (nds q)) (hn : ∀ ad, A = some ad → 0 < n → w.heap.size ≤ ad.block) : RdA W bw bm A n q :=
  ⟨hr, fun ad e h0 => by
    obtain ⟨ad2, e2, hb2, _⟩ := hr.2 h0
    rw [e] at e2
    injection e2 with e2
    subst e2
    exact AsideB.new h.st hb (hn ad e h0) hb2⟩
theorem RdA.of_below {W : World} {B base bw bm n : Nat} {A : Option Addr} {q o : List Nd} (h : Bu B base bw bm W o) (hr : Reads W B 6 A n (nds q)) : RdA W bw bm A n q :=
  ⟨hr.more h.size, fun ad e h0 => by
    obtain ⟨ad2, e2, hb2, _⟩ := hr.2 h0
    rw [e] at e2
    injection e2 with e2
    subst e2
    have h1 := h.b1
    have h2 := h.b2
    refine ⟨Nat.lt_of_lt_of_le hb2 h.size, by omega, by omega, fun e3 => ?_⟩
    have := (h.st.row _ e3.symm).1
    have := h.st.lw
    omega⟩
/-- block g holds just these places -/
def RS (W : World) (g : Nat) (l : List Nat) : Prop := W.heap[g]? = some (.cells (iv l).toArray 3 (0, 0))
theorem RS.cell {W : World} {g : Nat} {l : List Nat} (h : RS W g l) {k : Nat} (hk : k < l.length) : W.cell? ⟨g, k, none⟩ = some (.int .i64 ((l.getD k 0 : Nat) : Int)) := by
  rw [Lib.cell_of_heap h]
  simp [iv, hk]
theorem RS.free {W : World} {g : Nat} {l : List Nat} (h : RS W g l) (k : Nat) : W.frozen? ⟨g, k, none⟩ = false := Lib.frozen_of_heap h k
theorem RS.put {W : World} {g : Nat} {l : List Nat} (h : RS W g l) (k x : Nat) : RS (W.setCell ⟨g, k, none⟩ (.int .i64 (x : Int))) g (l.set k x) := by
  unfold RS at h ⊢
  have e : (iv (l.set k x)).toArray = (iv l).toArray.setIfInBounds k (.int .i64 (x : Int)) := by
    unfold iv
    rw [List.map_set]
    simp
  rw [e]
  simp [World.setCell, Array.getElem?_modify, h]
theorem RS.keep {W W' : World} {g : Nat} {l : List Nat} (h : RS W g l) (hb : W'.heap[g]? = W.heap[g]?) : RS W' g l := hb.trans h
theorem RS.reads {W : World} {g : Nat} {l : List Nat} (h : RS W g l) : Reads W W.heap.size 1 (some ⟨g, 0, none⟩) l.length (iv l) := by
  have hlt : g < W.heap.size := (Array.getElem?_eq_some_iff.1 h).1
  refine ⟨by unfold iv; simp, fun _ => ⟨_, rfl, hlt, fun j u hu => ?_⟩⟩
  rw [addr0, Lib.cell_of_heap h]
  simpa using hu
/-- the results so far, with zeros behind -/
def padR (nu : List Nat) (n : Nat) : List Nat := nu ++ List.replicate (n - nu.length) 0
theorem padR_set {nu : List Nat} {n : Nat} (h : nu.length < n) (v : Nat) : (padR nu n).set nu.length v = padR (nu ++ [v]) n := by
  unfold padR
  rw [List.length_append, show n - nu.length = (n - (nu.length + 1)) + 1 from by omega, List.replicate_succ]
  simp
/-- the loop's state: the builder's list, the results in block G, the nodes that are read -/
structure RwS (St : World → List Nd → Prop) (w : World) (bw bm G : Nat) (A : Option Addr) (q : List Nd) (W : World) (s : List Nat × List Nd) : Prop where
  st : St W s.2
  fb : Fb bw bm w W
  rs : RS W G (padR s.1 q.length)
  ag : AsideB W bw bm G
  rd : RdA W bw bm A q.length q
/-- what a state must keep -/
structure StOk (St : World → List Nd → Prop) (w : World) (B base bw bm : Nat) : Prop where
  bu : ∀ W o, St W o → Bu B base bw bm W o
  below : ∀ W W' o, St W o → Below W.heap.size W W' → St W' o
  set : ∀ W o G k v, St W o → w.heap.size ≤ G → AsideB W bw bm G → St (W.setCell ⟨G, k, none⟩ v) o
theorem RwS.below {St : World → List Nd → Prop} {w W W' : World} {B base bw bm G : Nat} {A : Option Addr} {q : List Nd} {s : List Nat × List Nd} (ok : StOk St w B base bw bm) (h : RwS St w bw bm G A q W s) (hb : Below W.heap.size W W') : RwS St w bw bm G A q W' s := by
  have hu := ok.bu _ _ h.st
  have hF := Fb.of_below (bm := bm) hb hu.lwB
  exact ⟨ok.below _ _ _ h.st hb, h.fb.trans hF, h.rs.keep (h.ag.step hF).1, (h.ag.step hF).2, h.rd.step hF⟩
theorem RwS.call {St : World → List Nd → Prop} {w W W' : World} {bw bm G : Nat} {A : Option Addr} {q : List Nd} {s : List Nat × List Nd} {o' : List Nd} (h : RwS St w bw bm G A q W s) (h1 : St W' o') (hF : Fb bw bm W W') : RwS St w bw bm G A q W' (s.1, o') :=
  ⟨h1, h.fb.trans hF, h.rs.keep (h.ag.step hF).1, (h.ag.step hF).2, h.rd.step hF⟩
theorem RwS.put {St : World → List Nd → Prop} {w W : World} {B base bw bm G : Nat} {A : Option Addr} {q : List Nd} {nu : List Nat} {o : List Nd} (ok : StOk St w B base bw bm) (h : RwS St w bw bm G A q W (nu, o)) (hG : w.heap.size ≤ G) (hA : ∀ ad, A = some ad → 0 < q.length → ad.block < w.heap.size) (v : Nat) (hn : nu.length < q.length) :
    RwS St w bw bm G A q (W.setCell ⟨G, nu.length, none⟩ (.int .i64 (v : Int))) (nu ++ [v], o) := by
  have hr := h.rs.put nu.length v
  rw [padR_set hn] at hr
  refine ⟨ok.set _ _ _ _ _ h.st hG h.ag, h.fb.other _ hG h.ag.n1, hr, h.ag.set h.ag.n1 _, ⟨?_, fun ad e h0 => (h.rd.as_ ad e h0).set h.ag.n1 _⟩⟩
  refine ⟨h.rd.rd.1, fun h0 => ?_⟩
  obtain ⟨ad, e, hb, hc⟩ := h.rd.rd.2 h0
  have := hA ad e h0
  refine ⟨ad, e, by simpa using hb, fun j u hu => ?_⟩
  rw [World.cell?_setCell_other _ _ _ _ (fun e2 => by have h9 := congrArg Addr.block e2; rw [block_of_add] at h9; dsimp only at h9; omega)]
  exact hc j u hu
end Go.Proofs.YtkkkomkljpolbaaDoor
/- Layer 8: the formula at a place. -/
namespace Go.Proofs.YtkkkomkljpolbaaDoor
open Go.RowKit Go.Proofs.Ws Go.Maps
set_option maxRecDepth 100000
/-- a block holds just these truth values -/
def ubs (l : List Bool) : List Value := l.map Value.bool
def UB (W : World) (g : Nat) (l : List Bool) : Prop := W.heap[g]? = some (.cells (ubs l).toArray 4 (0, 0))
theorem UB.cell {W : World} {g : Nat} {l : List Bool} (h : UB W g l) {k : Nat} (hk : k < l.length) : W.cell? ⟨g, k, none⟩ = some (.bool (l.getD k false)) := by
  rw [Lib.cell_of_heap h]
  simp [ubs, hk]
theorem UB.free {W : World} {g : Nat} {l : List Bool} (h : UB W g l) (k : Nat) : W.frozen? ⟨g, k, none⟩ = false := Lib.frozen_of_heap h k
theorem UB.put {W : World} {g : Nat} {l : List Bool} (h : UB W g l) (k : Nat) (x : Bool) : UB (W.setCell ⟨g, k, none⟩ (.bool x)) g (l.set k x) := by
  unfold UB at h ⊢
  have e : (ubs (l.set k x)).toArray = (ubs l).toArray.setIfInBounds k (.bool x) := by
    unfold ubs
    rw [List.map_set]
    simp
  rw [e]
  simp [World.setCell, Array.getElem?_modify, h]
theorem UB.keep {W W' : World} {g : Nat} {l : List Bool} (h : UB W g l) (hb : W'.heap[g]? = W.heap[g]?) : UB W' g l := hb.trans h
theorem Tryd.infoUB : (Tryd.prog.info? 4).map (fun i => (i.zero, i.size, i.bytes)) = some (some (.bool false), 1, 1) := by kernel_rfl
def ufalses (n : Nat) : Array Value := (List.replicate n (Value.bool false)).toArray
theorem UB.made (w : World) (n : Nat) : UB (w.alloc (.cells (ufalses n) 4)) w.heap.size (List.replicate n false) := by
  have := heap_alloc_new w (.cells (ufalses n) 4)
  unfold UB
  rw [this]
  have e : (ubs (List.replicate n false)).toArray = ufalses n := by simp [ubs, ufalses]
  rw [e]
/-- the state of the first loop: the marks -/
structure Mr (B base bw bm : Nat) (o : List Nd) (last : Nat) (w : World) (G m : Nat) (u : List Bool) (W : World) : Prop where
  g0 : w.heap.size = G
  bel : Below w.heap.size w W
  ub : UB W G u
  len : u.length = last + 1
  res : markL o m u = marksOf o last
  lt : G < W.heap.size
theorem Mr.alloc {B base bw bm m last G : Nat} {o : List Nd} {w W : World} {u : List Bool} (h : Mr B base bw bm o last w G m u W) (b : Obj) : Mr B base bw bm o last w G m u (W.alloc b) :=
  ⟨h.g0, h.bel.alloc h.bel.size b, h.ub.keep (Below.heap_alloc W b _ h.lt), h.len, h.res, by have := h.lt; simp; omega⟩
theorem Mr.set {B base bw bm m m' last G : Nat} {o : List Nd} {w W : World} {u : List Bool} (h : Mr B base bw bm o last w G m u W) (k : Nat) (hr : markL o m' (u.set k true) = marksOf o last) :
    Mr B base bw bm o last w G m' (u.set k true) (W.setCell ⟨G, k, none⟩ (.bool true)) :=
  ⟨h.g0, h.bel.setCell (by have := h.g0; show w.heap.size ≤ G; omega) _, h.ub.put k true, by rw [List.length_set, h.len], hr, by simpa using h.lt⟩
theorem Mr.two {B base bw bm m m' last G : Nat} {o : List Nd} {w W : World} {u : List Bool} (h : Mr B base bw bm o last w G m u W) (k l : Nat) (hr : markL o m' ((u.set k true).set l true) = marksOf o last) :
    Mr B base bw bm o last w G m' ((u.set k true).set l true) ((W.setCell ⟨G, k, none⟩ (.bool true)).setCell ⟨G, l, none⟩ (.bool true)) :=
  ⟨h.g0, (h.bel.setCell (by have := h.g0; show w.heap.size ≤ G; omega) _).setCell (by have := h.g0; show w.heap.size ≤ G; omega) _, (h.ub.put k true).put l true, by rw [List.length_set, List.length_set, h.len], hr, by have := h.lt; simpa using this⟩
theorem Mr.next {B base bw bm m m' last G : Nat} {o : List Nd} {w W : World} {u : List Bool} (h : Mr B base bw bm o last w G m u W) (hr : markL o m' u = marksOf o last) : Mr B base bw bm o last w G m' u W := ⟨h.g0, h.bel, h.ub, h.len, hr, h.lt⟩
/-- the state of the second loop: the list so far, the numbers -/
structure Tw (o : List Nd) (last : Nat) (w : World) (G G2 k : Nat) (W : World) (A : Option Addr) (c : Nat) : Prop where
  g0 : w.heap.size = G
  bel : Below w.heap.size w W
  ub : UB W G (marksOf o last)
  rs : RS W G2 (tkL o (marksOf o last) (last + 1) k).2
  row : W.ownsRow (G2 + 1) 62 6 (.slice A (tkL o (marksOf o last) (last + 1) k).1.length c) (tkL o (marksOf o last) (last + 1) k).1.length (nds (tkL o (marksOf o last) (last + 1) k).1)
  gg : G < G2
  lt : G2 < W.heap.size
theorem Tw.alloc {o : List Nd} {last G G2 k c : Nat} {w W : World} {A : Option Addr} (h : Tw o last w G G2 k W A c) (b : Obj) : Tw o last w G G2 k (W.alloc b) A c :=
  ⟨h.g0, h.bel.alloc h.bel.size b, h.ub.keep (Below.heap_alloc W b _ (by have := h.gg; have := h.lt; omega)), h.rs.keep (Below.heap_alloc W b _ h.lt), h.row.alloc _, h.gg, by have := h.lt; simp; omega⟩
theorem Tw.put {o : List Nd} {last G G2 k c : Nat} {w W : World} {A : Option Addr} (h : Tw o last w G G2 k W A c) (v : Nat) :
    RS (W.setCell ⟨G2, k, none⟩ (.int .i64 (v : Int))) G2 ((tkL o (marksOf o last) (last + 1) k).2.set k v) ∧ Below w.heap.size w (W.setCell ⟨G2, k, none⟩ (.int .i64 (v : Int))) ∧ UB (W.setCell ⟨G2, k, none⟩ (.int .i64 (v : Int))) G (marksOf o last) ∧ G2 < (W.setCell ⟨G2, k, none⟩ (.int .i64 (v : Int))).heap.size ∧
    (W.setCell ⟨G2, k, none⟩ (.int .i64 (v : Int))).ownsRow (G2 + 1) 62 6 (.slice A (tkL o (marksOf o last) (last + 1) k).1.length c) (tkL o (marksOf o last) (last + 1) k).1.length (nds (tkL o (marksOf o last) (last + 1) k).1) :=
  ⟨h.rs.put k v, h.bel.setCell (by have := h.g0; have := h.gg; show w.heap.size ≤ G2; omega) _, h.ub.keep (Below.heap_setCell _ _ _ _ (by have := h.gg; show G ≠ G2; omega)), by simpa using h.lt, ownsRow_setCell_below h.row (by show G2 < G2 + 1; omega) _⟩
end Go.Proofs.YtkkkomkljpolbaaDoor
/- Layer 8: the simplifier's small functions. -/
namespace Go.Proofs.YtkkkomkljpolbaaDoor
open Go.RowKit Go.Proofs.Ws Go.Maps
set_option maxRecDepth 100000
/-- the simplifier at block br, over its builder -/
structure Si (B base bw bm br : Nat) (W : World) (o : List Nd) : Prop where
  bu : Bu B base bw bm W o
  as_ : AsideB W bw bm br
  ptr : W.cell? ⟨br, 0, none⟩ = some (.pointer (some ⟨bw, 0, none⟩))
theorem Si.next {B base bw bm br : Nat} {W W' : World} {o o' : List Nd} (h : Si B base bw bm br W o) (hS : Bu B base bw bm W' o') (hF : Fb bw bm W W') : Si B base bw bm br W' o' := by
  obtain ⟨e, ha⟩ := h.as_.step hF
  exact ⟨hS, ha, (World.cell?_of_block (a := ⟨br, 0, none⟩) e).trans h.ptr⟩
theorem Si.below {B base bw bm br : Nat} {W W' : World} {o : List Nd} (h : Si B base bw bm br W o) (hb : Below W.heap.size W W') : Si B base bw bm br W' o :=
  h.next (h.bu.below hb) (Fb.of_below hb h.bu.lwB)
theorem Si.drew {B base bw bm br : Nat} {W : World} {o : List Nd} (h : Si B base bw bm br W o) : Si B base bw bm br W.drew o := h.below (Below.refl _ W).drew
theorem Fb.drew {bw bm : Nat} {w W : World} (h : Fb bw bm w W) : Fb bw bm w W.drew := ⟨h.os, h.tape, h.output, h.size, h.block, h.row⟩
theorem Si.drewN {B base bw bm br : Nat} {W : World} {o : List Nd} (h : Si B base bw bm br W o) (k : Nat) : Si B base bw bm br (W.drewN k) o := h.below (below_drewN (Below.refl _ _) k)
/-- what the calls on the builder give -/
def BuOk (B base bw bm br : Nat) (W : World) (p : Nat × List Nd) (e : Ending) (w' : World) : Prop := e = .returned (.int .i64 (p.1 : Nat)) ∧ Hid (Si B base bw bm br w' p.2) ∧ Hid (Fb bw bm W w')
theorem Si.add {B base bw bm br : Nat} {W0 W : World} {o : List Nd} (h : Hid (Si B base bw bm br W o)) (hF : Hid (Fb bw bm W0 W)) {n : Nd} (hn : NodeIn o n) (hm : o.length ≤ 1000000) :
    Calls Tryd.prog 82 #[.pointer (some ⟨bw, 0, none⟩), nv n] W (BuOk B base bw bm br W0 (putNd o n)) :=
  (add_any h.out.bu hn hm).mono (fun _e _w' ⟨h1, h2, h3⟩ => ⟨h1, Lib.hid (h.out.next h2 h3), Lib.hid (hF.out.trans h3)⟩)
theorem Si.neg {B base bw bm br : Nat} {W0 W : World} {o : List Nd} (h : Hid (Si B base bw bm br W o)) (hF : Hid (Fb bw bm W0 W)) {x : Nat} (hx : x < o.length) (hm : o.length ≤ 1000000) :
    Calls Tryd.prog 81 #[.pointer (some ⟨bw, 0, none⟩), .int .i64 (x : Int)] W (BuOk B base bw bm br W0 (negP o x)) :=
  (bNeg_any h.out.bu hx hm).mono (fun _e _w' ⟨h1, h2, h3⟩ => ⟨h1, Lib.hid (h.out.next h2 h3), Lib.hid (hF.out.trans h3)⟩)
/-- the same in a region that draws its order: the node's box and the pointer are as before -/
def BuKeep (B base bw bm br : Nat) (W : World) (g : Nat) (n : Nd) (p : Nat × List Nd) (e : Ending) (w' : World) : Prop :=
  e = .returned (.int .i64 (p.1 : Nat)) ∧ Hid (Si B base bw bm br w' p.2) ∧ Hid (Fb bw bm W w') ∧ w'.cell? ⟨br, 0, none⟩ = some (.pointer (some ⟨bw, 0, none⟩)) ∧ w'.cell? ⟨g, 0, none⟩ = some (.int .i64 n.op) ∧ w'.cell? ⟨g, 1, none⟩ = some (.int .i64 n.i) ∧
    w'.cell? ⟨g, 2, none⟩ = some (.int .i64 n.e) ∧ w'.cell? ⟨g, 3, none⟩ = some (.int .i64 n.g) ∧ w'.cell? ⟨g, 4, none⟩ = some (.int .i64 n.x) ∧ w'.cell? ⟨g, 5, none⟩ = some (.int .i64 n.y)
theorem BuOk.keep {B base bw bm br g : Nat} {W0 W : World} {o : List Nd} {n : Nd} {p : Nat × List Nd} (_h : Hid (Si B base bw bm br W o)) (hF : Hid (Fb bw bm W0 W)) (ha : AsideB W bw bm g) (hb : Hid (Box W g n)) {e : Ending} {w' : World} (hk : BuOk B base bw bm br W p e w') : BuKeep B base bw bm br W0 g n p e w' := by
  obtain ⟨h1, h2, h3⟩ := hk
  obtain ⟨q0, q1, q2, q3, q4, q5, _⟩ := hb.out.keep (ha.step h3.out).1
  exact ⟨h1, h2, Lib.hid (hF.out.trans h3.out), h2.out.ptr, q0, q1, q2, q3, q4, q5⟩
theorem BuOk.up {B base bw bm br : Nat} {W0 W : World} {p : Nat × List Nd} (hF : Hid (Fb bw bm W0 W)) {e : Ending} {w' : World} (hk : BuOk B base bw bm br W p e w') : BuOk B base bw bm br W0 p e w' :=
  ⟨hk.1, hk.2.1, Lib.hid (hF.out.trans hk.2.2.out)⟩
theorem Box.drew {W : World} {g : Nat} {x : Nd} (h : Box W g x) : Box W.drew g x := h
theorem Si.refl {B base bw bm br : Nat} {W0 W : World} {o : List Nd} (h : Hid (Si B base bw bm br W o)) (hF : Hid (Fb bw bm W0 W)) (k : Nat) : BuOk B base bw bm br W0 (k, o) (.returned (.int .i64 (k : Int))) W := ⟨rfl, h, hF⟩
end Go.Proofs.YtkkkomkljpolbaaDoor
/- Layer 8: the simplifier's And and Or. -/
namespace Go.Proofs.YtkkkomkljpolbaaDoor
open Go.RowKit Go.Proofs.Ws Go.Maps
set_option maxRecDepth 100000
end Go.Proofs.YtkkkomkljpolbaaDoor
/- Layer 8: the simplifier's Imp. -/
namespace Go.Proofs.YtkkkomkljpolbaaDoor
open Go.RowKit Go.Proofs.Ws Go.Maps
set_option maxRecDepth 100000
end Go.Proofs.YtkkkomkljpolbaaDoor
/- Layer 8: the simplifier's Iff. -/
namespace Go.Proofs.YtkkkomkljpolbaaDoor
open Go.RowKit Go.Proofs.Ws Go.Maps
set_option maxRecDepth 100000
end Go.Proofs.YtkkkomkljpolbaaDoor
/- Layer 8: the simplifier, operators 1 to 6. -/
namespace Go.Proofs.YtkkkomkljpolbaaDoor
open Go.RowKit Go.Proofs.Ws Go.Maps
set_option maxRecDepth 100000
end Go.Proofs.YtkkkomkljpolbaaDoor
/- Layer 8: the simplifier, operators 7 to 11. -/
namespace Go.Proofs.YtkkkomkljpolbaaDoor
open Go.RowKit Go.Proofs.Ws Go.Maps
set_option maxRecDepth 100000
end Go.Proofs.YtkkkomkljpolbaaDoor
/- Layer 8: the simplifier, operators 12 to 15. -/
namespace Go.Proofs.YtkkkomkljpolbaaDoor
open Go.RowKit Go.Proofs.Ws Go.Maps
set_option maxRecDepth 100000
end Go.Proofs.YtkkkomkljpolbaaDoor
/- Layer 8: the simplifier, operators 16 to 21. -/
namespace Go.Proofs.YtkkkomkljpolbaaDoor
open Go.RowKit Go.Proofs.Ws Go.Maps
set_option maxRecDepth 100000
end Go.Proofs.YtkkkomkljpolbaaDoor
/- Layer 8: the simplifier. -/
namespace Go.Proofs.YtkkkomkljpolbaaDoor
open Go.RowKit Go.Proofs.Ws Go.Maps
set_option maxRecDepth 100000
end Go.Proofs.YtkkkomkljpolbaaDoor
/- Layer 8: few operators. -/
namespace Go.Proofs.YtkkkomkljpolbaaDoor
open Go.RowKit Go.Proofs.Ws Go.Maps
set_option maxRecDepth 100000
/-- what the calls on the builder give -/
def CoOk (B base bw bm : Nat) (W : World) (p : Nat × List Nd) (e : Ending) (w' : World) : Prop := e = .returned (.int .i64 (p.1 : Nat)) ∧ Hid (Bu B base bw bm w' p.2) ∧ Hid (Fb bw bm W w')
theorem Bu.drew {B base bw bm : Nat} {W : World} {o : List Nd} (h : Bu B base bw bm W o) : Bu B base bw bm W.drew o := h.below (Below.refl _ W).drew
theorem FbG.drew {bw bm : Nat} {w W : World} (h : Fb bw bm w W) : Fb bw bm w W.drew := ⟨h.os, h.tape, h.output, h.size, h.block, h.row⟩
theorem Bu.drewN {B base bw bm : Nat} {W : World} {o : List Nd} (h : Bu B base bw bm W o) (k : Nat) : Bu B base bw bm (W.drewN k) o := h.below (below_drewN (Below.refl _ _) k)
/-- a call in a region that draws its order: the node's box is as before -/
def CoKeep (B base bw bm : Nat) (W : World) (g : Nat) (n : Nd) (p : Nat × List Nd) (e : Ending) (w' : World) : Prop :=
  e = .returned (.int .i64 (p.1 : Nat)) ∧ Hid (Bu B base bw bm w' p.2) ∧ Hid (Fb bw bm W w') ∧ Hid (AsideB w' bw bm g) ∧ Hid (Box w' g n) ∧ w'.cell? ⟨g, 1, none⟩ = some (.int .i64 n.i)
theorem CoOk.keep {B base bw bm g : Nat} {W0 W : World} {n : Nd} {p : Nat × List Nd} (hF : Hid (Fb bw bm W0 W)) (ha : Hid (AsideB W bw bm g)) (hb : Hid (Box W g n)) {e : Ending} {w' : World} (hk : CoOk B base bw bm W p e w') : CoKeep B base bw bm W0 g n p e w' := by
  obtain ⟨h1, h2, h3⟩ := hk
  have hs := ha.out.step h3.out
  have hb2 := hb.out.keep hs.1
  exact ⟨h1, h2, Lib.hid (hF.out.trans h3.out), Lib.hid hs.2, Lib.hid hb2, hb2.2.1⟩
end Go.Proofs.YtkkkomkljpolbaaDoor
/- Layer 8: few operators, operators 1 to 8. -/
namespace Go.Proofs.YtkkkomkljpolbaaDoor
open Go.RowKit Go.Proofs.Ws Go.Maps
set_option maxRecDepth 100000
end Go.Proofs.YtkkkomkljpolbaaDoor
/- Layer 8: few operators, operators 9 to 14. -/
namespace Go.Proofs.YtkkkomkljpolbaaDoor
open Go.RowKit Go.Proofs.Ws Go.Maps
set_option maxRecDepth 100000
end Go.Proofs.YtkkkomkljpolbaaDoor
/- Layer 8: few operators, operators 15 to 21. -/
namespace Go.Proofs.YtkkkomkljpolbaaDoor
open Go.RowKit Go.Proofs.Ws Go.Maps
set_option maxRecDepth 100000
end Go.Proofs.YtkkkomkljpolbaaDoor
/- Layer 8: few operators. -/
namespace Go.Proofs.YtkkkomkljpolbaaDoor
open Go.RowKit Go.Proofs.Ws Go.Maps
set_option maxRecDepth 100000
end Go.Proofs.YtkkkomkljpolbaaDoor
/- Layer 8: Simplify, Core, Negate of the program. -/
namespace Go.Proofs.YtkkkomkljpolbaaDoor
open Go.RowKit Go.Proofs.Ws Go.Maps
set_option maxRecDepth 100000
theorem BW.begin {w : World} (t : TypeId) : BW ((w.alloc (.map #[] 0)).alloc (.cells #[.slice none 0 0, .map (some w.heap.size)] t)) (w.heap.size + 2) (w.heap.size + 1) w.heap.size [] := by
  have hmap := World.ownsMap_made w Tryd.prog 62 (plainElem (H := Unit) Tryd.prog 3)
  have s2 : (w.alloc (.map #[] 0)).heap.size = w.heap.size + 1 := by simp
  generalize w.alloc (.map #[] 0) = wb at *
  have hbx := heap_alloc_new wb (.cells #[.slice none 0 0, .map (some w.heap.size)] t)
  rw [s2] at hbx
  have hm := ownsMap_keep hmap (Below.heap_alloc wb (.cells #[.slice none 0 0, .map (some w.heap.size)] t) _ (by omega))
  have s3 : (wb.alloc (.cells #[.slice none 0 0, .map (some w.heap.size)] t)).heap.size = w.heap.size + 2 := by simp; omega
  generalize wb.alloc (.cells #[.slice none 0 0, .map (some w.heap.size)] t) = wc at *
  have hc := Lib.cell_of_heap hbx
  exact ⟨by omega, by omega, by omega, by omega, ⟨none, 0, hc 0, World.ownsRow_nil _ _ _ _⟩, Lib.frozen_of_heap hbx 0, hc 1, ⟨_, hm, MapOf.start⟩⟩
theorem Bu.ok {B base bw bm : Nat} {w : World} (hB : B ≤ w.heap.size) : StOk (fun W o => Bu B base bw bm W o) w B base bw bm :=
  ⟨fun _ _ h => h, fun _ _ _ h hb => h.below hb, fun W o G k v h hG ha => ⟨h.st.other ha v, h.env.below ((Below.refl _ W).setCell (by show B ≤ G; omega) v), h.b1, h.b2, h.kn, h.bd⟩⟩
theorem Si.ok {B base bw bm br : Nat} {w : World} (hB : B ≤ w.heap.size) (hb : br < w.heap.size) : StOk (fun W o => Si B base bw bm br W o) w B base bw bm :=
  ⟨fun _ _ h => h.bu, fun _ _ _ h hb => h.below hb, fun W o G k v h hG ha => ⟨(Bu.ok hB).set W o G k v h.bu hG ha, h.as_.set ha.n1 v, (World.cell?_setCell_other _ _ _ _ (fun e2 => by have h9 := congrArg Addr.block e2; dsimp only at h9; omega)).trans h.ptr⟩⟩
theorem RdA.own {w W : World} {B base bw bm n c : Nat} {A : Option Addr} {q o : List Nd} (h : Bu B base bw bm w o) (hb : Below w.heap.size w W) (hr : W.ownsRow w.heap.size 62 6 (.slice A n c) n (nds q)) : RdA W bw bm A n q :=
  RdA.of_new h hb (Reads.of_own hr) (fun ad e h0 => (hr.lt ad.block (by rw [e]; rfl)).1)
end Go.Proofs.YtkkkomkljpolbaaDoor
/- Layer 8: the normalizer. -/
namespace Go.Proofs.YtkkkomkljpolbaaDoor
open Go.RowKit Go.Proofs.Ws Go.Maps
set_option maxRecDepth 100000
/-- the normalizer at block br: its builder, the forms, those of the negations -/
structure No (B base bw bm br b2 : Nat) (Af : Option Addr) (cf : Nat) (An : Option Addr) (cn : Nat) (W : World) (s : NS) : Prop where
  bu : Bu B base bw bm W s.o
  as_ : AsideB W bw bm br
  ptr : W.cell? ⟨br, 0, none⟩ = some (.pointer (some ⟨bw, 0, none⟩))
  c1 : W.cell? ⟨br, 1, none⟩ = some (.slice Af s.fo.length cf)
  c2 : W.cell? ⟨br, 2, none⟩ = some (.slice An s.ne.length cn)
  z1 : W.frozen? ⟨br, 1, none⟩ = false
  z2 : W.frozen? ⟨br, 2, none⟩ = false
  rf : W.ownsRow b2 3 1 (.slice Af s.fo.length cf) s.fo.length (iv s.fo)
  rn : W.ownsRow b2 3 1 (.slice An s.ne.length cn) s.ne.length (iv s.ne)
  af : ∀ ad, Af = some ad → AsideB W bw bm ad.block
  an : ∀ ad, An = some ad → AsideB W bw bm ad.block
  ap : ∀ a b, Af = some a → An = some b → a.block ≠ b.block
  bb : br < b2
theorem No.next {B base bw bm br b2 cf cn : Nat} {Af An : Option Addr} {W W' : World} {s : NS} {o' : List Nd} (h : No B base bw bm br b2 Af cf An cn W s) (hS : Bu B base bw bm W' o') (hF : Fb bw bm W W') : No B base bw bm br b2 Af cf An cn W' ⟨s.fo, s.ne, o'⟩ := by
  obtain ⟨e, ha⟩ := h.as_.step hF
  have c := fun j => World.cell?_of_block (a := ⟨br, j, none⟩) e
  have f := fun j => World.frozen?_of_block (a := ⟨br, j, none⟩) e
  refine ⟨hS, ha, (c 0).trans h.ptr, (c 1).trans h.c1, (c 2).trans h.c2, (f 1).trans h.z1, (f 2).trans h.z2, own_keep1 h.rf (fun g hg => ?_), own_keep1 h.rn (fun g hg => ?_), fun ad e => ((h.af ad e).step hF).2, fun ad e => ((h.an ad e).step hF).2, h.ap, h.bb⟩
  · cases Af with
    | none => cases hg
    | some ad => injection hg with hg; subst hg; exact ((h.af ad rfl).step hF).1
  · cases An with
    | none => cases hg
    | some ad => injection hg with hg; subst hg; exact ((h.an ad rfl).step hF).1
theorem No.below {B base bw bm br b2 cf cn : Nat} {Af An : Option Addr} {W W' : World} {s : NS} (h : No B base bw bm br b2 Af cf An cn W s) (hb : Below W.heap.size W W') : No B base bw bm br b2 Af cf An cn W' s :=
  h.next (h.bu.below hb) (Fb.of_below hb h.bu.lwB)
theorem No.drew {B base bw bm br b2 cf cn : Nat} {Af An : Option Addr} {W : World} {s : NS} (h : No B base bw bm br b2 Af cf An cn W s) : No B base bw bm br b2 Af cf An cn W.drew s := h.below (Below.refl _ W).drew
/-- a node over the places so far -/
structure FIn (s : NS) (n : Nd) : Prop where
  kn : known n.op = true
  lf : s.ne.length = s.fo.length
  x : usesX n.op = true → 0 ≤ n.x ∧ n.x.toNat < s.fo.length
  y : usesY n.op = true → 0 ≤ n.y ∧ n.y.toNat < s.fo.length
  x0 : ¬ usesX n.op = true → n.x = 0
  y0 : ¬ usesY n.op = true → n.y = 0
  pf : ∀ j, j < s.fo.length → s.fo.getD j 0 < s.o.length
  pn : ∀ j, j < s.ne.length → s.ne.getD j 0 < s.o.length
  w : NdW n
  few : s.o.length ≤ 900000
theorem FIn.more {s : NS} {n : Nd} (h : FIn s n) {o' : List Nd} (hl : s.o.length ≤ o'.length) (hm : o'.length ≤ 900000) : FIn ⟨s.fo, s.ne, o'⟩ n :=
  ⟨h.kn, h.lf, h.x, h.y, h.x0, h.y0, fun j hj => Nat.lt_of_lt_of_le (h.pf j hj) hl, fun j hj => Nat.lt_of_lt_of_le (h.pn j hj) hl, h.w, hm⟩
theorem wOps_in {o : List Nd} {n : Nd} {nu : List Nat} (kn : known n.op = true) (w : NdW n) (hx : usesX n.op = true → 0 ≤ n.x ∧ n.x.toNat < nu.length) (hy : usesY n.op = true → 0 ≤ n.y ∧ n.y.toNat < nu.length) (x0 : ¬ usesX n.op = true → n.x = 0) (y0 : ¬ usesY n.op = true → n.y = 0)
    (pl : ∀ j, j < nu.length → nu.getD j 0 < o.length) (hm : o.length ≤ 1000000) : NodeIn o (wOps n nu) := by
  have ex : 0 ≤ (wOps n nu).x ∧ (wOps n nu).x ≤ 1000000 ∧ (if usesX n.op = true then 0 ≤ (wOps n nu).x ∧ (wOps n nu).x < (o.length : Int) else (wOps n nu).x = 0) := by
    unfold wOps
    dsimp only
    by_cases k : usesX n.op = true
    · rw [if_pos k, if_pos k]; have := pl _ (hx k).2; omega
    · rw [if_neg k, if_neg k]; have := x0 k; omega
  have ey : 0 ≤ (wOps n nu).y ∧ (wOps n nu).y ≤ 1000000 ∧ (if usesY n.op = true then 0 ≤ (wOps n nu).y ∧ (wOps n nu).y < (o.length : Int) else (wOps n nu).y = 0) := by
    unfold wOps
    dsimp only
    by_cases k : usesY n.op = true
    · rw [if_pos k, if_pos k]; have := pl _ (hy k).2; omega
    · rw [if_neg k, if_neg k]; have := y0 k; omega
  exact ⟨kn, ⟨ex.2.2, ey.2.2⟩, ⟨w.op, w.i, w.e, w.g, WalkArith.wf_i64 (by have := ex.1; have := ex.2.1; omega), WalkArith.wf_i64 (by have := ey.1; have := ey.2.1; omega)⟩⟩
theorem FIn.node {s : NS} {n : Nd} (h : FIn s n) : NodeIn s.o (wOps n s.fo) := wOps_in h.kn h.w h.x h.y h.x0 h.y0 h.pf (by have := h.few; omega)
theorem dual_known {op : Int} (h : dualOf op ≠ 0) : known (dualOf op) = true := by
  unfold dualOf at h ⊢
  by_cases h1 : op = 1
  · subst h1; decide
  by_cases h2 : op = 2
  · subst h2; decide
  by_cases h3 : op = 5
  · subst h3; decide
  by_cases h4 : op = 6
  · subst h4; decide
  by_cases h5 : op = 9
  · subst h5; decide
  by_cases h6 : op = 10
  · subst h6; decide
  rw [if_neg h1, if_neg h2, if_neg h3, if_neg h4, if_neg h5, if_neg h6] at h
  exact absurd rfl h
theorem FIn.dual {s : NS} {n : Nd} (h : FIn s n) (hd : dualOf n.op ≠ 0) : NodeIn s.o (wOps (dN n) s.ne) := by
  obtain ⟨e1, e2⟩ := dual_uses hd
  have hl := h.lf
  refine wOps_in (n := dN n) (dual_known hd) ⟨w_op (dual_known hd), h.w.i, h.w.e, h.w.g, h.w.x, h.w.y⟩ (fun k => ?_) (fun k => ?_) (fun k => ?_) (fun k => ?_) h.pn (by have := h.few; omega)
  · have k2 : usesX (dualOf n.op) = true := k
    have := h.x (e1 ▸ k2)
    exact ⟨this.1, by show n.x.toNat < _; omega⟩
  · have k2 : usesY (dualOf n.op) = true := k
    have := h.y (e2 ▸ k2)
    exact ⟨this.1, by show n.y.toNat < _; omega⟩
  · have k2 : ¬ usesX (dualOf n.op) = true := k
    exact h.x0 (fun u => k2 (e1.symm ▸ u))
  · have k2 : ¬ usesY (dualOf n.op) = true := k
    exact h.y0 (fun u => k2 (e2.symm ▸ u))
/-- the places of the two operands -/
theorem No.elF {B base bw bm br b2 cf cn : Nat} {Af An : Option Addr} {W : World} {s : NS} (h : No B base bw bm br b2 Af cf An cn W s) {k : Nat} (hk : k < s.fo.length) : ∃ ad, Af = some ad ∧ W.cell? (ad.add k) = some (.int .i64 ((s.fo.getD k 0 : Nat) : Int)) := by
  obtain ⟨ad, h1, _, h2⟩ := iv_read (Reads.of_own h.rf) hk
  exact ⟨ad, h1, h2⟩
theorem No.elN {B base bw bm br b2 cf cn : Nat} {Af An : Option Addr} {W : World} {s : NS} (h : No B base bw bm br b2 Af cf An cn W s) {k : Nat} (hk : k < s.ne.length) : ∃ ad, An = some ad ∧ W.cell? (ad.add k) = some (.int .i64 ((s.ne.getD k 0 : Nat) : Int)) := by
  obtain ⟨ad, h1, _, h2⟩ := iv_read (Reads.of_own h.rn) hk
  exact ⟨ad, h1, h2⟩
/-- what is read in a region: the normalizer's fields, the node's box, the places of the operands -/
def Lim (W : World) (bw br gx : Nat) (af an : Addr) (lf cf ln cn : Nat) (n : Nd) (kx ky xp xn yp yn : Nat) : Prop :=
  W.cell? ⟨br, 0, none⟩ = some (.pointer (some ⟨bw, 0, none⟩)) ∧ W.cell? ⟨br, 1, none⟩ = some (.slice (some af) lf cf) ∧ W.cell? ⟨br, 2, none⟩ = some (.slice (some an) ln cn) ∧
  W.cell? ⟨gx, 4, none⟩ = some (.int .i64 n.x) ∧ W.cell? ⟨gx, 5, none⟩ = some (.int .i64 n.y) ∧ W.cell? (af.add kx) = some (.int .i64 (xp : Int)) ∧ W.cell? (an.add kx) = some (.int .i64 (xn : Int)) ∧ W.cell? (af.add ky) = some (.int .i64 (yp : Int)) ∧ W.cell? (an.add ky) = some (.int .i64 (yn : Int))
theorem No.lim {B base bw bm br b2 cf cn gx kx ky : Nat} {af an : Addr} {W : World} {s : NS} {n : Nd} (h : No B base bw bm br b2 (some af) cf (some an) cn W s) (hb : Box W gx n) (hf : s.ne.length = s.fo.length) (hx : kx < s.fo.length) (hy : ky < s.fo.length) :
    Lim W bw br gx af an s.fo.length cf s.ne.length cn n kx ky (s.fo.getD kx 0) (s.ne.getD kx 0) (s.fo.getD ky 0) (s.ne.getD ky 0) := by
  obtain ⟨a1, e1, h1⟩ := h.elF hx
  obtain ⟨a2, e2, h2⟩ := h.elN (k := kx) (by omega)
  obtain ⟨a3, e3, h3⟩ := h.elF hy
  obtain ⟨a4, e4, h4⟩ := h.elN (k := ky) (by omega)
  injection e1 with e1
  injection e2 with e2
  injection e3 with e3
  injection e4 with e4
  subst e1 e2
  rw [← e3] at h3
  rw [← e4] at h4
  exact ⟨h.ptr, h.c1, h.c2, hb.2.2.2.2.1, hb.2.2.2.2.2.1, h1, h2, h3, h4⟩
/-- a call on the builder -/
def NoKeep (B base bw bm br b2 : Nat) (af : Addr) (cf : Nat) (an : Addr) (cn : Nat) (W : World) (s : NS) (gx : Nat) (n : Nd) (kx ky : Nat) (p : Nat × List Nd) (e : Ending) (w' : World) : Prop :=
  e = .returned (.int .i64 (p.1 : Nat)) ∧ Hid (No B base bw bm br b2 (some af) cf (some an) cn w' ⟨s.fo, s.ne, p.2⟩) ∧ Hid (Fb bw bm W w') ∧ Hid (AsideB w' bw bm gx) ∧ Hid (Box w' gx n) ∧ Lim w' bw br gx af an s.fo.length cf s.ne.length cn n kx ky (s.fo.getD kx 0) (s.ne.getD kx 0) (s.fo.getD ky 0) (s.ne.getD ky 0)
theorem NoKeep.join {B base bw bm br b2 cf cn gx kx ky : Nat} {af an : Addr} {W0 W : World} {s : NS} {n : Nd} (h : Hid (No B base bw bm br b2 (some af) cf (some an) cn W s)) (hF : Hid (Fb bw bm W0 W)) (ha : Hid (AsideB W bw bm gx)) (hb : Hid (Box W gx n)) (hf : s.ne.length = s.fo.length) (hx : kx < s.fo.length) (hy : ky < s.fo.length)
    {op : Int} {x y : Nat} (hn : NodeIn s.o (jN op x y)) (hm : s.o.length ≤ 1000000) :
    Calls Tryd.prog 132 #[.pointer (some ⟨bw, 0, none⟩), .int .i64 op, .int .i64 (x : Int), .int .i64 (y : Int)] W (NoKeep B base bw bm br b2 af cf an cn W0 s gx n kx ky (jPut s.o op x y)) :=
  (bJoin_any h.out.bu hn hm).mono (fun e w' ⟨h1, h2, h3⟩ => by
    have hN := h.out.next h2 h3
    have hs := ha.out.step h3
    have hB := hb.out.keep hs.1
    exact ⟨h1, Lib.hid hN, Lib.hid (hF.out.trans h3), Lib.hid hs.2, Lib.hid hB, hN.lim hB hf hx hy⟩)
theorem AsideB.drew {W : World} {bw bm g : Nat} (h : AsideB W bw bm g) : AsideB W.drew bw bm g := ⟨h.lt, h.n1, h.n3, h.row⟩
end Go.Proofs.YtkkkomkljpolbaaDoor
/- Layer 8: the normalizer, the forms. -/
namespace Go.Proofs.YtkkkomkljpolbaaDoor
open Go.RowKit Go.Proofs.Ws Go.Maps
set_option maxRecDepth 100000
end Go.Proofs.YtkkkomkljpolbaaDoor
/- Layer 8: the normalizer, the forms of an equivalence. -/
namespace Go.Proofs.YtkkkomkljpolbaaDoor
open Go.RowKit Go.Proofs.Ws Go.Maps
set_option maxRecDepth 100000
end Go.Proofs.YtkkkomkljpolbaaDoor
/- Layer 8: the normalizer, the forms of other nodes. -/
namespace Go.Proofs.YtkkkomkljpolbaaDoor
open Go.RowKit Go.Proofs.Ws Go.Maps
set_option maxRecDepth 100000
end Go.Proofs.YtkkkomkljpolbaaDoor
/- Layer 8: the normalizer, the forms of negations. -/
namespace Go.Proofs.YtkkkomkljpolbaaDoor
open Go.RowKit Go.Proofs.Ws Go.Maps
set_option maxRecDepth 100000
end Go.Proofs.YtkkkomkljpolbaaDoor
/- Layer 8: the normalizer, the forms of the negation of an equivalence. -/
namespace Go.Proofs.YtkkkomkljpolbaaDoor
open Go.RowKit Go.Proofs.Ws Go.Maps
set_option maxRecDepth 100000
end Go.Proofs.YtkkkomkljpolbaaDoor
/- Layer 8: the normalizer, dual operators. -/
namespace Go.Proofs.YtkkkomkljpolbaaDoor
open Go.RowKit Go.Proofs.Ws Go.Maps
set_option maxRecDepth 100000
end Go.Proofs.YtkkkomkljpolbaaDoor
/- Layer 8: the normalizer, negations of other nodes. -/
namespace Go.Proofs.YtkkkomkljpolbaaDoor
open Go.RowKit Go.Proofs.Ws Go.Maps
set_option maxRecDepth 100000
end Go.Proofs.YtkkkomkljpolbaaDoor
/- Layer 8: the normalizer's methods on any node; its two rows. -/
namespace Go.Proofs.YtkkkomkljpolbaaDoor
open Go.RowKit Go.Proofs.Ws Go.Maps
set_option maxRecDepth 100000
theorem FIn.xy {s : NS} {n : Nd} (hi : FIn s n) : ∃ kx ky : Nat, n = ⟨n.op, n.i, n.e, n.g, (kx : Int), (ky : Int)⟩ := by
  have h1 : 0 ≤ n.x := by
    by_cases h : usesX n.op = true
    · exact (hi.x h).1
    · rw [hi.x0 h]; omega
  have h2 : 0 ≤ n.y := by
    by_cases h : usesY n.op = true
    · exact (hi.y h).1
    · rw [hi.y0 h]; omega
  refine ⟨n.x.toNat, n.y.toNat, ?_⟩
  rw [Int.toNat_of_nonneg h1, Int.toNat_of_nonneg h2]
/-- two worlds that differ in one block aside -/
structure But (r : Option Nat) (W W' : World) : Prop where
  os : W'.os = W.os
  tape : W'.tape = W.tape
  output : W'.output = W.output
  size : W.heap.size ≤ W'.heap.size
  block : ∀ k, k < W.heap.size → some k ≠ r → W'.heap[k]? = W.heap[k]?
theorem But.row {r : Option Nat} {W W' : World} {bw bm : Nat} (h : But r W W') (ha : ∀ g, r = some g → AsideB W bw bm g) (hb : bw < W.heap.size) : rowB W' bw = rowB W bw := rowB_same (h.block bw hb (fun e => (ha bw e.symm).n1 rfl))
theorem But.aside {r : Option Nat} {W W' : World} {bw bm k : Nat} (h : But r W W') (ha : ∀ g, r = some g → AsideB W bw bm g) (hb : bw < W.heap.size) (hk : AsideB W bw bm k) : AsideB W' bw bm k :=
  ⟨Nat.lt_of_lt_of_le hk.lt h.size, hk.n1, hk.n3, by rw [h.row ha hb]; exact hk.row⟩
theorem But.new {r : Option Nat} {W W' : World} {B base bw bm k : Nat} {o : List Nd} (h : But r W W') (hu : Bu B base bw bm W o) (ha : ∀ g, r = some g → AsideB W bw bm g) (h1 : W.heap.size ≤ k) (h2 : k < W'.heap.size) : AsideB W' bw bm k := by
  have l1 := hu.st.lw
  have l2 := hu.st.lm
  have l3 := hu.st.lb
  refine ⟨h2, by omega, by omega, ?_⟩
  rw [h.row ha hu.lwB]
  intro e
  have := (hu.st.row k e.symm).2
  omega
theorem But.bu {r : Option Nat} {W W' : World} {B base bw bm : Nat} {o : List Nd} (h : But r W W') (hu : Bu B base bw bm W o) (ha : ∀ g, r = some g → AsideB W bw bm g) (hB : ∀ g, r = some g → B ≤ g) : Bu B base bw bm W' o := by
  have l1 := hu.st.lw
  have l2 := hu.st.lm
  have l3 := hu.st.lb
  refine ⟨hu.st.keep h.size (h.block bw (by omega) (fun e => (ha bw e.symm).n1 rfl)) (h.block bm (by omega) (fun e => (ha bm e.symm).n3 rfl)) (fun g hg => h.block g (hu.st.row g hg).2 (fun e => (ha g e.symm).row hg.symm)), ?_, hu.b1, hu.b2, hu.kn, hu.bd⟩
  exact hu.env.below ⟨h.os, h.tape, h.output, h.size, fun g hg => h.block g (by have := hu.size; omega) (fun e => by have := hB g e.symm; omega)⟩
theorem But.fb {r : Option Nat} {w W W' : World} {bw bm : Nat} (h : But r W W') (hF : Fb bw bm w W) (ha : ∀ g, r = some g → AsideB W bw bm g) (hb : bw < W.heap.size) (hw : ∀ g, r = some g → w.heap.size ≤ g) : Fb bw bm w W' :=
  ⟨h.os.trans hF.os, h.tape.trans hF.tape, h.output.trans hF.output, Nat.le_trans hF.size h.size, fun g hg h1 h2 h3 => (h.block g (Nat.lt_of_lt_of_le hg hF.size) (fun e => by have := hw g e.symm; omega)).trans (hF.block g hg h1 h2 h3), by rw [h.row ha hb]; exact hF.row⟩
/-- the loop of the normal form: what is in the normalizer's cells, and the two rows as they are -/
structure Ap (B base bw bm br N : Nat) (w : World) (S1 S2 V1 : Value) (l1 : List Nat) (V2 : Value) (l2 : List Nat) (Aq : Option Addr) (cq : Nat) (q : List Nd) (o : List Nd) (W : World) : Prop where
  bu : Bu B base bw bm W o
  fb : Fb bw bm w W
  as_ : AsideB W bw bm br
  ptr : W.cell? ⟨br, 0, none⟩ = some (.pointer (some ⟨bw, 0, none⟩))
  c1 : W.cell? ⟨br, 1, none⟩ = some S1
  c2 : W.cell? ⟨br, 2, none⟩ = some S2
  z1 : W.frozen? ⟨br, 1, none⟩ = false
  z2 : W.frozen? ⟨br, 2, none⟩ = false
  r1 : W.ownsRow (br + 1) 3 1 V1 l1.length (iv l1)
  r2 : W.ownsRow (br + 1) 3 1 V2 l2.length (iv l2)
  a1 : ∀ g, V1.ownBlock = some g → AsideB W bw bm g ∧ N ≤ g
  a2 : ∀ g, V2.ownBlock = some g → AsideB W bw bm g ∧ N ≤ g
  ap : ∀ g, V1.ownBlock = some g → V2.ownBlock ≠ some g
  lb : br < N
  nn : N ≤ W.heap.size
  w0 : w.heap.size ≤ br
  rq : W.ownsRow (br + 1) 62 6 (.slice Aq q.length cq) q.length (nds q)
  aq : ∀ g, (Value.slice Aq q.length cq).ownBlock = some g → AsideB W bw bm g ∧ g < N
/-- a call on the builder, or new blocks -/
theorem Ap.next {B base bw bm br N cq : Nat} {w W W' : World} {S1 S2 V1 V2 : Value} {l1 l2 : List Nat} {Aq : Option Addr} {q o o' : List Nd} (h : Ap B base bw bm br N w S1 S2 V1 l1 V2 l2 Aq cq q o W) (hu : Bu B base bw bm W' o') (hF : Fb bw bm W W') : Ap B base bw bm br N w S1 S2 V1 l1 V2 l2 Aq cq q o' W' := by
  obtain ⟨e, ha⟩ := h.as_.step hF
  have c := fun j => World.cell?_of_block (a := ⟨br, j, none⟩) e
  have f := fun j => World.frozen?_of_block (a := ⟨br, j, none⟩) e
  exact ⟨hu, h.fb.trans hF, ha, (c 0).trans h.ptr, (c 1).trans h.c1, (c 2).trans h.c2, (f 1).trans h.z1, (f 2).trans h.z2,
    own_keep1 h.r1 (fun g hg => ((h.a1 g hg).1.step hF).1), own_keep1 h.r2 (fun g hg => ((h.a2 g hg).1.step hF).1),
    fun g hg => ⟨((h.a1 g hg).1.step hF).2, (h.a1 g hg).2⟩, fun g hg => ⟨((h.a2 g hg).1.step hF).2, (h.a2 g hg).2⟩, h.ap, h.lb, Nat.le_trans h.nn hF.size, h.w0,
    own_keep1 h.rq (fun g hg => ((h.aq g hg).1.step hF).1), fun g hg => ⟨((h.aq g hg).1.step hF).2, (h.aq g hg).2⟩⟩
theorem Ap.below {B base bw bm br N cq : Nat} {w W W' : World} {S1 S2 V1 V2 : Value} {l1 l2 : List Nat} {Aq : Option Addr} {q o : List Nd} (h : Ap B base bw bm br N w S1 S2 V1 l1 V2 l2 Aq cq q o W) (hb : Below W.heap.size W W') : Ap B base bw bm br N w S1 S2 V1 l1 V2 l2 Aq cq q o W' :=
  h.next (h.bu.below hb) (Fb.of_below hb h.bu.lwB)
theorem Ap.alloc {B base bw bm br N cq : Nat} {w W : World} {S1 S2 V1 V2 : Value} {l1 l2 : List Nat} {Aq : Option Addr} {q o : List Nd} (h : Ap B base bw bm br N w S1 S2 V1 l1 V2 l2 Aq cq q o W) (b : Obj) : Ap B base bw bm br N w S1 S2 V1 l1 V2 l2 Aq cq q o (W.alloc b) :=
  h.below ((Below.refl _ W).alloc (Nat.le_refl _) b)
theorem Ap.drew {B base bw bm br N cq : Nat} {w W : World} {S1 S2 V1 V2 : Value} {l1 l2 : List Nat} {Aq : Option Addr} {q o : List Nd} (h : Ap B base bw bm br N w S1 S2 V1 l1 V2 l2 Aq cq q o W) : Ap B base bw bm br N w S1 S2 V1 l1 V2 l2 Aq cq q o W.drew :=
  h.below (Below.refl _ W).drew
/-- one row's block changes, or a new one comes -/
theorem Ap.but {B base bw bm br N cq : Nat} {w W W' : World} {S1 S2 V1 V2 V1' V2' : Value} {l1 l2 l1' l2' : List Nat} {Aq : Option Addr} {q o : List Nd} {r : Option Nat} (h : Ap B base bw bm br N w S1 S2 V1 l1 V2 l2 Aq cq q o W) (hB : B ≤ N) (hb : But r W W')
    (hr : ∀ g, r = some g → AsideB W bw bm g ∧ N ≤ g)
    (h1 : W'.ownsRow (br + 1) 3 1 V1' l1'.length (iv l1')) (h2 : W'.ownsRow (br + 1) 3 1 V2' l2'.length (iv l2'))
    (k1 : ∀ g, V1'.ownBlock = some g → (AsideB W bw bm g ∧ N ≤ g) ∨ (W.heap.size ≤ g ∧ g < W'.heap.size)) (k2 : ∀ g, V2'.ownBlock = some g → (AsideB W bw bm g ∧ N ≤ g) ∨ (W.heap.size ≤ g ∧ g < W'.heap.size))
    (ap : ∀ g, V1'.ownBlock = some g → V2'.ownBlock ≠ some g) : Ap B base bw bm br N w S1 S2 V1' l1' V2' l2' Aq cq q o W' := by
  have hra := fun g e => (hr g e).1
  have hbr : W'.heap[br]? = W.heap[br]? := hb.block br h.as_.lt (fun e => by have := (hr br e.symm).2; have := h.lb; omega)
  have c := fun j => World.cell?_of_block (a := ⟨br, j, none⟩) hbr
  have f := fun j => World.frozen?_of_block (a := ⟨br, j, none⟩) hbr
  have hws := h.nn
  have hw0 := h.w0
  have hlb := h.lb
  have both : ∀ g, (AsideB W bw bm g ∧ N ≤ g) ∨ (W.heap.size ≤ g ∧ g < W'.heap.size) → AsideB W' bw bm g ∧ N ≤ g := fun g e => by
    rcases e with ⟨e1, e2⟩ | ⟨e1, e2⟩
    · exact ⟨hb.aside hra h.bu.lwB e1, e2⟩
    · exact ⟨hb.new h.bu hra e1 e2, by omega⟩
  exact ⟨hb.bu h.bu hra (fun g e => by have := (hr g e).2; omega), hb.fb h.fb hra h.bu.lwB (fun g e => by have := (hr g e).2; omega), hb.aside hra h.bu.lwB h.as_, (c 0).trans h.ptr, (c 1).trans h.c1, (c 2).trans h.c2, (f 1).trans h.z1, (f 2).trans h.z2, h1, h2,
    fun g e => both g (k1 g e), fun g e => both g (k2 g e), ap, h.lb, Nat.le_trans h.nn hb.size, h.w0,
    own_keep1 h.rq (fun g hg => hb.block g (h.aq g hg).1.lt (fun e => by have := (hr g e.symm).2; have := (h.aq g hg).2; omega)), fun g hg => ⟨hb.aside hra h.bu.lwB (h.aq g hg).1, (h.aq g hg).2⟩⟩
/-- the two rows are laid into the normalizer -/
theorem Ap.store {B base bw bm br N cq : Nat} {w W : World} {S1 S2 V1 V2 : Value} {l1 l2 : List Nat} {Aq : Option Addr} {q o : List Nd} (h : Ap B base bw bm br N w S1 S2 V1 l1 V2 l2 Aq cq q o W) (hB : B ≤ br) :
    Ap B base bw bm br N w V1 V2 V1 l1 V2 l2 Aq cq q o ((W.setCell ⟨br, 1, none⟩ V1).setCell ⟨br, 2, none⟩ V2) := by
  have hlb := h.lb
  have n1 := h.as_.n1
  have b1 : But (some br) W ((W.setCell ⟨br, 1, none⟩ V1).setCell ⟨br, 2, none⟩ V2) := ⟨rfl, rfl, rfl, by simp, fun k _ hn => (Below.heap_setCell _ _ _ _ (fun e => hn (by rw [e]))).trans (Below.heap_setCell _ _ _ _ (fun e => hn (by rw [e])))⟩
  have hra : ∀ g, some br = some g → AsideB W bw bm g := fun g e => by injection e with e; subst e; exact h.as_
  have d0 : ∀ (W2 : World) (j : Nat) (v : Value) (k : Nat), j ≠ k → (W2.setCell ⟨br, j, none⟩ v).cell? ⟨br, k, none⟩ = W2.cell? ⟨br, k, none⟩ := fun W2 j v k hjk => World.cell?_setCell_other _ _ _ _ (fun e2 => by have h9 := congrArg Addr.off e2; dsimp only at h9; omega)
  refine ⟨b1.bu h.bu hra (fun g e => by injection e with e; omega), b1.fb h.fb hra h.bu.lwB (fun g e => by injection e with e; have := h.w0; omega), b1.aside hra h.bu.lwB h.as_, ?_, ?_, ?_, ?_, ?_, ?_, ?_, fun g hg => ⟨b1.aside hra h.bu.lwB (h.a1 g hg).1, (h.a1 g hg).2⟩, fun g hg => ⟨b1.aside hra h.bu.lwB (h.a2 g hg).1, (h.a2 g hg).2⟩, h.ap, h.lb, by have := h.nn; simpa using this, h.w0, ?_, fun g hg => ⟨b1.aside hra h.bu.lwB (h.aq g hg).1, (h.aq g hg).2⟩⟩
  · rw [d0 _ 2 _ 0 (by decide), d0 _ 1 _ 0 (by decide)]; exact h.ptr
  · rw [d0 _ 2 _ 1 (by decide)]; exact World.cell?_setCell_same _ _ _ h.c1
  · exact World.cell?_setCell_same _ _ _ ((d0 _ 1 _ 2 (by decide)).trans h.c2)
  · rw [World.frozen?_setCell, World.frozen?_setCell]; exact h.z1
  · rw [World.frozen?_setCell, World.frozen?_setCell]; exact h.z2
  · exact ownsRow_setCell_below (ownsRow_setCell_below h.r1 (by show br < br + 1; omega) _) (by show br < br + 1; omega) _
  · exact ownsRow_setCell_below (ownsRow_setCell_below h.r2 (by show br < br + 1; omega) _) (by show br < br + 1; omega) _
  · exact ownsRow_setCell_below (ownsRow_setCell_below h.rq (by show br < br + 1; omega) _) (by show br < br + 1; omega) _
theorem Ap.no {B base bw bm br N cq c1 c2 : Nat} {w W : World} {A1 A2 : Option Addr} {l1 l2 : List Nat} {Aq : Option Addr} {q o : List Nd} (h : Ap B base bw bm br N w (.slice A1 l1.length c1) (.slice A2 l2.length c2) (.slice A1 l1.length c1) l1 (.slice A2 l2.length c2) l2 Aq cq q o W) :
    No B base bw bm br (br + 1) A1 c1 A2 c2 W ⟨l1, l2, o⟩ :=
  ⟨h.bu, h.as_, h.ptr, h.c1, h.c2, h.z1, h.z2, h.r1, h.r2, fun ad e => (h.a1 ad.block (by rw [e]; rfl)).1, fun ad e => (h.a2 ad.block (by rw [e]; rfl)).1, fun a b e1 e2 e3 => h.ap a.block (by rw [e1]; rfl) (by rw [e2, e3]; rfl), Nat.lt_succ_self _⟩
end Go.Proofs.YtkkkomkljpolbaaDoor
/- Layer 8: the program's negation normal form. -/
namespace Go.Proofs.YtkkkomkljpolbaaDoor
open Go.RowKit Go.Proofs.Ws Go.Maps
set_option maxRecDepth 100000
end Go.Proofs.YtkkkomkljpolbaaDoor
