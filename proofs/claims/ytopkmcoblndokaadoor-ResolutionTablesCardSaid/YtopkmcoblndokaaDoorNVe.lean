/- Layer 6: texts joined: Kj Kk Kl Kn Ko. -/
import Derived.Test.YtopkmcoblndokaaDoorNVa
import Derived.Test.YtopkmcoblndokaaDoorNVd
import Derived.Laws.StructEq
import Derived.Deep.RegionLaw
import Derived.Deep.RegionHeld3
import Derived.Deep.AppendLies
import Derived.KernelRfl
/- Layer 5: the reference's error of a node (the rest). -/
namespace Go.Proofs.YtopkmcoblndokaaDoor
open Go.RowKit Go.Proofs.Ws
end Go.Proofs.YtopkmcoblndokaaDoor
/- Layer 5: the reference's error of any node, and of a list of nodes. -/
namespace Go.Proofs.YtopkmcoblndokaaDoor
open Go.RowKit Go.Proofs.Ws
end Go.Proofs.YtopkmcoblndokaaDoor
/- Layer 5: nodes compared, a node appended, the reference put. -/
namespace Go.Proofs.YtopkmcoblndokaaDoor
open Go.RowKit Go.Proofs.Ws
def eqN (a b : Nd) : Bool := decide (a = b)
theorem eqN_fields (a b : Nd) : (a.op == b.op && (a.i == b.i && (a.e == b.e && (a.g == b.g && (a.x == b.x && a.y == b.y))))) = eqN a b := by
  obtain ⟨a1, a2, a3, a4, a5, a6⟩ := a
  obtain ⟨b1, b2, b3, b4, b5, b6⟩ := b
  unfold eqN
  rw [Bool.eq_iff_iff]
  simp
@[go_sem] theorem Tryd.eqNode (a b : Nd) (w : World) : (Op.equalIn 10000 55 (.agg #[.int .i64 a.op, .int .i64 a.i, .int .i64 a.e, .int .i64 a.g, .int .i64 a.x, .int .i64 a.y]) (.agg #[.int .i64 b.op, .int .i64 b.i, .int .i64 b.e, .int .i64 b.g, .int .i64 b.x, .int .i64 b.y])).run Tryd.prog w = .ok (eqN a b) w := by
  have u3 := Tryd.underlying3
  have a3 := Tryd.isAgg3
  have z3 := Tryd.sizeOf3
  have hS : Tryd.prog.underlying 55 = some (.struct (Tryd.prog.fieldsOf 55)) := by kernel_rfl
  have hp : Tryd.prog.stoodInHeld 55 = false := by kernel_rfl
  rw [show (10000 : Nat) = 9999 + 1 from rfl, run_equalIn_agg w 9999 _ _ _ hS hp]
  simp only [Program.fieldsOf, Tryd.underlying55]
  rw [← eqN_fields]
  go_simp
  by_cases h1 : a.op = b.op <;> by_cases h2 : a.i = b.i <;> by_cases h3 : a.e = b.e <;> by_cases h4 : a.g = b.g <;> by_cases h5 : a.x = b.x <;> by_cases h6 : a.y = b.y <;> simp [h1, h2, h3, h4, h5, h6]
@[go_sem] theorem Tryd.eqNodeGuard : Tryd.prog.eqGuardType Tryd.prog.depth 55 = false := by kernel_rfl
theorem eqRun (a b : Nd) (w : World) : (binOp .eql 55 (.agg #[.int .i64 a.op, .int .i64 a.i, .int .i64 a.e, .int .i64 a.g, .int .i64 a.x, .int .i64 a.y]) (.agg #[.int .i64 b.op, .int .i64 b.i, .int .i64 b.e, .int .i64 b.g, .int .i64 b.x, .int .i64 b.y])).run Tryd.prog w = .ok (.bool (eqN a b)) w := by
  rw [run_eql_struct, Tryd.eqNode]
  rfl
theorem own_keep6 {W W' : World} {lo size : Nat} {e : TypeId} {v : Value} {n : Nat} {xs : List Value} (h : W.ownsRow lo e size v n xs) (hk : ∀ g, lo ≤ g → g < W.heap.size → W'.heap[g]? = W.heap[g]?) : W'.ownsRow lo e size v n xs := by
  refine ⟨h.1, ?_⟩
  rcases h.2 with hn | ⟨g, cap, cur, hv, hb, hg, rest⟩
  · exact .inl hn
  · exact .inr ⟨g, cap, cur, hv, hb, by rw [hk g hb (Array.getElem?_eq_some_iff.1 hg).1]; exact hg, rest⟩
theorem addr_zero (b j : Nat) : (⟨b, 0, none⟩ : Addr).add j = ⟨b, j, none⟩ := by
  cases j <;> simp [Addr.add]
theorem Tryd.infoNode : (Tryd.prog.info? 55).map (fun i => (i.zero, i.size, i.bytes)) = some (some (.agg #[.int .i64 0, .int .i64 0, .int .i64 0, .int .i64 0, .int .i64 0, .int .i64 0]), 6, 48) := by kernel_rfl
theorem row_new {v : Value} {g3 n c H H0 : Nat} (h : v.ownBlock = some g3 ∨ H ≤ g3) (hH : H0 ≤ H) : (Value.slice (some ⟨g3, 0, none⟩) n c).ownBlock = v.ownBlock ∨ ∃ g, (Value.slice (some ⟨g3, 0, none⟩) n c).ownBlock = some g ∧ H0 ≤ g := by
  rcases h with h | h
  · exact .inl h.symm
  · exact .inr ⟨g3, rfl, by omega⟩
theorem step_appN {ops : Array Oper} {o : Oper} {a : Act} {K : Act → World → Prop} {Q : Exit → Act → World → Prop} {E : Prop} {out : List Nd} (n : Nd) (W : World) (hgd : o.guard = none) (s x : Operand)
    (ho : o.op = .call { callee := .builtin .append, args := #[s, x], argTypes := #[22, 22] }) (base b : Nat) (v : Value)
    (hs : a.eval s = v) (hown : W.ownsRow base 55 6 v out.length (nds out)) (hx : a.eval x = .slice (some ⟨b, 0, none⟩) 1 1)
    (hc : ∀ j u, (ndC n)[j]? = some u → W.cell? ⟨b, j, none⟩ = some u) (hl : out.length ≤ 1000) (hbase : base ≤ W.heap.size)
    (h : ∀ g cap w', w'.ownsRow base 55 6 (.slice (some ⟨g, 0, none⟩) (out.length + 1) cap) (out ++ [n]).length (nds (out ++ [n])) → W.grownBy w' v.ownBlock → (v.ownBlock = some g ∨ W.heap.size ≤ g) → K (a.put o.dst (.slice (some ⟨g, 0, none⟩) (out.length + 1) cap)) w') :
    if Region.wanted o (yielded ops a.tmps) = true then Oper.wp Tryd.prog o a W K Q else E := by
  obtain ⟨i0, hi, hz0, hz1, hz2⟩ := info_parts Tryd.infoNode
  refine step_append_lies W hgd s x 22 ho base 55 i0 _ 6 48 Tryd.underlying22 hi hz0 hz1 hz2 rfl (by decide) v out.length (nds out) hs hown ⟨b, 0, none⟩ 1 1 (ndC n) hx rfl ?_ ?_ (by decide) (by unfold maxLen; omega) (by omega) hbase _ rfl ?_
  · intro j u hj
    have := hc j u hj
    rw [addr_zero]
    exact this
  · intro u hu
    simp only [ndC, List.mem_cons, List.not_mem_nil, or_false] at hu
    rcases hu with rfl | rfl | rfl | rfl | rfl | rfl <;> rfl
  · intro g cap w' h1 h2 h3 _
    refine h g cap w' ?_ h2 (h3.imp id (fun e => by omega))
    rw [nds_append, List.length_append]
    have e : nds [n] = ndC n := by simp [nds]
    rw [e]
    exact h1
end Go.Proofs.YtopkmcoblndokaaDoor
/- Layer 5: the state of the reference's walk, and put at it. -/
namespace Go.Proofs.YtopkmcoblndokaaDoor
open Go.RowKit Go.Proofs.Ws
def dnV (d : Option Nat) : Value := .int .i64 (match d with | none => -1 | some k => (k : Int))
/-- the walk at block bw: the list so far (a row of its own), and the numbers of the nodes in block bd -/
structure RW (W : World) (base bw bd n : Nat) (s : Wk) : Prop where
  lw : bw < base
  ld : bd < base
  ne : bw ≠ bd
  lb : base ≤ W.heap.size
  out : ∃ A c, W.cell? ⟨bw, 0, none⟩ = some (.slice A s.out.length c) ∧ W.ownsRow base 55 6 (.slice A s.out.length c) s.out.length (nds s.out)
  fout : W.frozen? ⟨bw, 0, none⟩ = false
  dn : ∃ c, W.cell? ⟨bw, 1, none⟩ = some (.slice (some ⟨bd, 0, none⟩) n c)
  len : s.done.length = n
  cells : ∀ j, j < n → W.cell? ⟨bd, j, none⟩ = some (dnV (s.done.getD j none))
  free : ∀ j, j < n → W.frozen? ⟨bd, j, none⟩ = false
def rowOf (W : World) (bw : Nat) : Option Nat := match W.cell? ⟨bw, 0, none⟩ with | some v => v.ownBlock | none => none
/-- what a step of the walk leaves -/
structure Fr (bw bd : Nat) (w w' : World) : Prop where
  os : w'.os = w.os
  tape : w'.tape = w.tape
  output : w'.output = w.output
  size : w.heap.size ≤ w'.heap.size
  block : ∀ g, g < w.heap.size → g ≠ bw → g ≠ bd → some g ≠ rowOf w bw → w'.heap[g]? = w.heap[g]?
  row : rowOf w' bw = rowOf w bw ∨ ∃ g, rowOf w' bw = some g ∧ w.heap.size ≤ g
theorem rowOf_of {W : World} {bw : Nat} {v : Value} (h : W.cell? ⟨bw, 0, none⟩ = some v) : rowOf W bw = v.ownBlock := by unfold rowOf; rw [h]
theorem rowOf_same {w w' : World} {bw : Nat} (h : w'.cell? ⟨bw, 0, none⟩ = w.cell? ⟨bw, 0, none⟩) : rowOf w' bw = rowOf w bw := by unfold rowOf; rw [h]
theorem Fr.of_below {w w' : World} {bw bd : Nat} (h : Below w.heap.size w w') (hb : bw < w.heap.size) : Fr bw bd w w' :=
  ⟨h.os, h.tape, h.output, h.size, fun g hg _ _ _ => h.block g hg, .inl (rowOf_same (h.cell (p := ⟨bw, 0, none⟩) hb))⟩
theorem Fr.trans {a b c : World} {bw bd : Nat} (h : Fr bw bd a b) (k : Fr bw bd b c) : Fr bw bd a c := by
  refine ⟨k.os.trans h.os, k.tape.trans h.tape, k.output.trans h.output, Nat.le_trans h.size k.size, fun g hg h1 h2 h3 => ?_, ?_⟩
  · refine (k.block g (Nat.lt_of_lt_of_le hg h.size) h1 h2 ?_).trans (h.block g hg h1 h2 h3)
    rcases h.row with e | ⟨g2, e, hl⟩
    · rw [e]; exact h3
    · rw [e]; intro e2; injection e2; omega
  · rcases k.row with e | ⟨g2, e, hl⟩
    · rw [e]; exact h.row
    · exact .inr ⟨g2, e, Nat.le_trans h.size hl⟩
theorem RW.below {W W' : World} {base bw bd n : Nat} {s : Wk} (h : RW W base bw bd n s) (hb : Below W.heap.size W W') : RW W' base bw bd n s := by
  have lw := h.lw
  have ld := h.ld
  have lb := h.lb
  obtain ⟨A, c, h1, h2⟩ := h.out
  obtain ⟨c2, h3⟩ := h.dn
  exact ⟨lw, ld, h.ne, Nat.le_trans lb hb.size,
    ⟨A, c, (hb.cell (p := ⟨bw, 0, none⟩) (by show bw < _; omega)).trans h1, own_keep6 h2 (fun g _ hg => hb.block g hg)⟩,
    (hb.frozen (p := ⟨bw, 0, none⟩) (by show bw < _; omega)).trans h.fout, ⟨c2, (hb.cell (p := ⟨bw, 1, none⟩) (by show bw < _; omega)).trans h3⟩, h.len,
    fun j hj => (hb.cell (p := ⟨bd, j, none⟩) (by show bd < _; omega)).trans (h.cells j hj), fun j hj => (hb.frozen (p := ⟨bd, j, none⟩) (by show bd < _; omega)).trans (h.free j hj)⟩
end Go.Proofs.YtopkmcoblndokaaDoor
/- Layer 5: the reference's walk: how its state is kept, and finish. -/
namespace Go.Proofs.YtopkmcoblndokaaDoor
open Go.RowKit Go.Proofs.Ws
theorem own_keep1 {W W' : World} {lo size : Nat} {e : TypeId} {v : Value} {n : Nat} {xs : List Value} (h : W.ownsRow lo e size v n xs) (hk : ∀ g, v.ownBlock = some g → W'.heap[g]? = W.heap[g]?) : W'.ownsRow lo e size v n xs := by
  refine ⟨h.1, ?_⟩
  rcases h.2 with hn | ⟨g, cap, cur, hv, hb, hg, rest⟩
  · exact .inl hn
  · exact .inr ⟨g, cap, cur, hv, hb, by rw [hk g (by rw [hv]; rfl)]; exact hg, rest⟩
theorem RW.row {W : World} {base bw bd n : Nat} {s : Wk} (h : RW W base bw bd n s) : ∀ g, rowOf W bw = some g → base ≤ g ∧ g < W.heap.size := by
  obtain ⟨A, c, h1, h2⟩ := h.out
  intro g hg
  rw [rowOf_of h1] at hg
  exact h2.lt g hg
theorem RW.keep {W W' : World} {base bw bd n : Nat} {s : Wk} (h : RW W base bw bd n s) (hs : W.heap.size ≤ W'.heap.size) (hw : W'.heap[bw]? = W.heap[bw]?) (hd : W'.heap[bd]? = W.heap[bd]?)
    (hr : ∀ g, rowOf W bw = some g → W'.heap[g]? = W.heap[g]?) : RW W' base bw bd n s := by
  obtain ⟨A, c, h1, h2⟩ := h.out
  obtain ⟨c2, h3⟩ := h.dn
  refine ⟨h.lw, h.ld, h.ne, Nat.le_trans h.lb hs, ⟨A, c, (World.cell?_of_block (a := ⟨bw, 0, none⟩) hw).trans h1, own_keep1 h2 (fun g hg => hr g (by rw [rowOf_of h1]; exact hg))⟩,
    (World.frozen?_of_block (a := ⟨bw, 0, none⟩) hw).trans h.fout, ⟨c2, (World.cell?_of_block (a := ⟨bw, 1, none⟩) hw).trans h3⟩, h.len,
    fun j hj => (World.cell?_of_block (a := ⟨bd, j, none⟩) hd).trans (h.cells j hj), fun j hj => (World.frozen?_of_block (a := ⟨bd, j, none⟩) hd).trans (h.free j hj)⟩
/-- a cell of a block that is no part of the walk is set -/
theorem RW.other {W : World} {base bw bd n : Nat} {s : Wk} (h : RW W base bw bd n s) {g j : Nat} (v : Value) (h1 : g ≠ bw) (h2 : g ≠ bd) (h3 : some g ≠ rowOf W bw) : RW (W.setCell ⟨g, j, none⟩ v) base bw bd n s :=
  h.keep (by simp) (Below.heap_setCell _ _ _ _ h1.symm) (Below.heap_setCell _ _ _ _ h2.symm) (fun k hk => Below.heap_setCell _ _ _ _ (fun e => h3 (by rw [hk, e])))
theorem RW.drewN {W : World} {base bw bd n : Nat} {s : Wk} (h : RW W base bw bd n s) (k : Nat) : RW (W.drewN k) base bw bd n s :=
  h.keep (Nat.le_refl _) rfl rfl (fun _ _ => rfl)
theorem RW.set {W : World} {base bw bd n : Nat} {s : Wk} (h : RW W base bw bd n s) {i : Nat} (hi : i < n) (k : Nat) : RW (W.setCell ⟨bd, i, none⟩ (.int .i64 (k : Int))) base bw bd n ⟨s.out, s.done.set i (some k)⟩ := by
  obtain ⟨A, c, h1, h2⟩ := h.out
  obtain ⟨c2, h3⟩ := h.dn
  have hw : (W.setCell ⟨bd, i, none⟩ (.int .i64 (k : Int))).heap[bw]? = W.heap[bw]? := Below.heap_setCell _ _ _ _ h.ne
  refine ⟨h.lw, h.ld, h.ne, by simpa using h.lb, ⟨A, c, (World.cell?_of_block (a := ⟨bw, 0, none⟩) hw).trans h1, ownsRow_setCell_below h2 h.ld _⟩,
    (World.frozen?_of_block (a := ⟨bw, 0, none⟩) hw).trans h.fout, ⟨c2, (World.cell?_of_block (a := ⟨bw, 1, none⟩) hw).trans h3⟩, by show (s.done.set i (some k)).length = n; rw [List.length_set, h.len],
    fun j hj => ?_, fun j hj => by rw [World.frozen?_setCell]; exact h.free j hj⟩
  show _ = some (dnV ((s.done.set i (some k)).getD j none))
  rw [getD_set (by rw [h.len]; exact hi)]
  by_cases e : i = j
  · subst e
    rw [if_pos rfl]
    exact World.cell?_setCell_same W _ _ (h.cells i hi)
  · rw [if_neg e, World.cell?_setCell_other W ⟨bd, i, none⟩ ⟨bd, j, none⟩ _ (fun e2 => by have h9 := congrArg Addr.off e2; dsimp only at h9; omega)]
    exact h.cells j hj
theorem Fr.low {bw bd : Nat} {w w' : World} (h : Fr bw bd w w') {B : Nat} (h0 : B ≤ w.heap.size) (h1 : B ≤ bw) (h2 : B ≤ bd) (h3 : ∀ g, rowOf w bw = some g → B ≤ g) : Below B w w' :=
  ⟨h.os, h.tape, h.output, h.size, fun g hg => h.block g (by omega) (by omega) (by omega) (fun e => by have := h3 g e.symm; omega)⟩
theorem Fr.other {bw bd : Nat} {w W : World} (h : Fr bw bd w W) {g j : Nat} (v : Value) (h1 : w.heap.size ≤ g) (h2 : g ≠ bw) : Fr bw bd w (W.setCell ⟨g, j, none⟩ v) := by
  refine ⟨h.os, h.tape, h.output, by simpa using h.size, fun k hk a b c => (Below.heap_setCell _ _ _ _ (by show k ≠ g; omega)).trans (h.block k hk a b c), ?_⟩
  have e : rowOf (W.setCell ⟨g, j, none⟩ v) bw = rowOf W bw := rowOf_same (World.cell?_of_block (a := ⟨bw, 0, none⟩) (Below.heap_setCell _ _ _ _ h2.symm))
  rw [e]; exact h.row
theorem Fr.drewN {bw bd : Nat} {w W : World} (h : Fr bw bd w W) (k : Nat) : Fr bw bd w (W.drewN k) :=
  ⟨h.os, h.tape, h.output, h.size, h.block, h.row⟩
/-- how many nodes are finished, and no more nodes in the list -/
def Cnt (s : Wk) : Prop := s.out.length ≤ s.done.countP Option.isSome ∧ ∀ j k, s.done.getD j none = some k → k < s.out.length
theorem Cnt.le {s : Wk} (h : Cnt s) {n : Nat} (hl : s.done.length = n) : s.out.length ≤ n := Nat.le_trans h.1 (hl ▸ List.countP_le_length)
theorem countP_set {l : List (Option Nat)} : ∀ {i : Nat} {k : Nat}, i < l.length → l.getD i none = none → (l.set i (some k)).countP Option.isSome = l.countP Option.isSome + 1 := by
  induction l with
  | nil => intro i k h; simp at h
  | cons a l ih =>
    intro i k h hd
    cases i with
    | zero =>
      have : a = none := hd
      subst this
      simp
    | succ i =>
      have := ih (k := k) (by simpa using h) hd
      simp only [List.set_cons_succ, List.countP_cons, this]
      omega
theorem finW_cnt {f : List Nd} (hf : opsL f) : ∀ (fuel i : Nat) (s : Wk), i < fuel → i < f.length → s.done.length = f.length → Cnt s →
    Cnt (finW f fuel i s).2 ∧ (finW f fuel i s).2.done.length = f.length ∧ (∀ j, i < j → (finW f fuel i s).2.done.getD j none = s.done.getD j none) := by
  intro fuel
  induction fuel with
  | zero => intro i s h; omega
  | succ fuel ih =>
    intro i s h hi hl hc
    unfold finW
    cases hd : s.done.getD i none with
    | some k => exact ⟨hc, hl, fun _ _ => rfl⟩
    | none =>
      simp only
      have ho := hf i hi
      have fin : ∀ (r : Nat × Wk) (m : Nd), Cnt r.2 → r.2.done.length = f.length → (∀ j, i ≤ j → r.2.done.getD j none = s.done.getD j none) →
          Cnt ⟨(putNd r.2.out m).2, r.2.done.set i (some (putNd r.2.out m).1)⟩ ∧ (r.2.done.set i (some (putNd r.2.out m).1)).length = f.length ∧ (∀ j, i < j → (r.2.done.set i (some (putNd r.2.out m).1)).getD j none = s.done.getD j none) := by
        intro r m h1 h2 h3
        refine ⟨?_, by rw [List.length_set, h2], fun j hj => by rw [getD_set (by rw [h2]; exact hi), if_neg (by omega)]; exact h3 j (by omega)⟩
        refine ⟨?_, fun j k hj => ?_⟩
        · show (putNd r.2.out m).2.length ≤ (r.2.done.set i (some (putNd r.2.out m).1)).countP Option.isSome
          rw [countP_set (by rw [h2]; exact hi) (by rw [h3 i (Nat.le_refl _)]; exact hd)]
          have := (putNd_len r.2.out m).1
          have h4 : r.2.out.length ≤ _ := h1.1
          omega
        · show k < (putNd r.2.out m).2.length
          have hj : (r.2.done.set i (some (putNd r.2.out m).1)).getD j none = some k := hj
          rw [getD_set (by rw [h2]; exact hi)] at hj
          by_cases e : i = j
          · rw [if_pos e] at hj
            injection hj with hj
            rw [← hj]; exact (putNd_len r.2.out m).2
          · rw [if_neg e] at hj
            have := h1.2 j k hj
            have := (putNd_pre r.2.out m).length_le
            omega
      by_cases hx : usesX (f.getD i nd0).op = true
      · have ox := opsOk_x ho hx
        rw [if_pos hx]
        obtain ⟨a1, a2, a3⟩ := ih (f.getD i nd0).x.toNat s (by omega) (by omega) hl hc
        by_cases hy : usesY (f.getD i nd0).op = true
        · have oy := opsOk_y ho hy
          rw [if_pos hy]
          obtain ⟨b1, b2, b3⟩ := ih (f.getD i nd0).y.toNat (finW f fuel (f.getD i nd0).x.toNat s).2 (by omega) (by omega) a2 a1
          exact fin _ _ b1 b2 (fun j hj => by rw [b3 j (by omega), a3 j (by omega)])
        · rw [if_neg hy]
          exact fin (_, (finW f fuel (f.getD i nd0).x.toNat s).2) _ a1 a2 (fun j hj => a3 j (by omega))
      · rw [if_neg hx]
        by_cases hy : usesY (f.getD i nd0).op = true
        · exact absurd (usesY_X hy) hx
        · rw [if_neg hy]
          exact fin (_, s) _ hc hl (fun _ _ => rfl)
theorem finW_done {f : List Nd} (_hf : opsL f) : ∀ (fuel i : Nat) (s : Wk), i < fuel → i < f.length → s.done.length = f.length → (finW f fuel i s).2.done.getD i none = some (finW f fuel i s).1 := by
  intro fuel
  have hlen : ∀ (fuel i : Nat) (s : Wk), (finW f fuel i s).2.done.length = s.done.length := by
    intro fuel
    induction fuel with
    | zero => intro i s; rfl
    | succ fuel ih =>
      intro i s
      unfold finW
      cases hd : s.done.getD i none with
      | some k => rfl
      | none =>
        simp only [List.length_set]
        split <;> split <;> simp only [ih]
  cases fuel with
  | zero => intro i s h; omega
  | succ fuel =>
    intro i s h hi hl
    unfold finW
    cases hd : s.done.getD i none with
    | some k => exact hd
    | none =>
      simp only
      rw [getD_set, if_pos rfl]
      split <;> split <;> simp only [hlen] <;> omega
/-- the box of one node, in a block of its own -/
def Box (W : World) (g : Nat) (x : Nd) : Prop :=
  W.cell? ⟨g, 0, none⟩ = some (.int .i64 x.op) ∧ W.cell? ⟨g, 1, none⟩ = some (.int .i64 x.i) ∧ W.cell? ⟨g, 2, none⟩ = some (.int .i64 x.e) ∧ W.cell? ⟨g, 3, none⟩ = some (.int .i64 x.g) ∧ W.cell? ⟨g, 4, none⟩ = some (.int .i64 x.x) ∧ W.cell? ⟨g, 5, none⟩ = some (.int .i64 x.y) ∧ ∀ j, W.frozen? ⟨g, j, none⟩ = false
theorem Box.keep {W W' : World} {g : Nat} {x : Nd} (h : Box W g x) (hb : W'.heap[g]? = W.heap[g]?) : Box W' g x := by
  obtain ⟨h0, h1, h2, h3, h4, h5, hf⟩ := h
  have e : ∀ j, W'.cell? ⟨g, j, none⟩ = W.cell? ⟨g, j, none⟩ := fun j => World.cell?_of_block (a := ⟨g, j, none⟩) hb
  exact ⟨(e 0).trans h0, (e 1).trans h1, (e 2).trans h2, (e 3).trans h3, (e 4).trans h4, (e 5).trans h5, fun j => (World.frozen?_of_block (a := ⟨g, j, none⟩) hb).trans (hf j)⟩
theorem Box.setX {W : World} {g : Nat} {x : Nd} (h : Box W g x) (v : Int) : Box (W.setCell ⟨g, 4, none⟩ (.int .i64 v)) g { x with x := v } := by
  obtain ⟨h0, h1, h2, h3, h4, h5, hf⟩ := h
  have e : ∀ j, j ≠ 4 → (W.setCell ⟨g, 4, none⟩ (.int .i64 v)).cell? ⟨g, j, none⟩ = W.cell? ⟨g, j, none⟩ := fun j hj => World.cell?_setCell_other W ⟨g, 4, none⟩ ⟨g, j, none⟩ _ (fun e2 => by have h9 := congrArg Addr.off e2; have h9 : _ = _ := h9; dsimp only at h9; omega)
  exact ⟨(e 0 (by decide)).trans h0, (e 1 (by decide)).trans h1, (e 2 (by decide)).trans h2, (e 3 (by decide)).trans h3, World.cell?_setCell_same W _ _ h4, (e 5 (by decide)).trans h5, fun j => by rw [World.frozen?_setCell]; exact hf j⟩
theorem Box.setY {W : World} {g : Nat} {x : Nd} (h : Box W g x) (v : Int) : Box (W.setCell ⟨g, 5, none⟩ (.int .i64 v)) g { x with y := v } := by
  obtain ⟨h0, h1, h2, h3, h4, h5, hf⟩ := h
  have e : ∀ j, j ≠ 5 → (W.setCell ⟨g, 5, none⟩ (.int .i64 v)).cell? ⟨g, j, none⟩ = W.cell? ⟨g, j, none⟩ := fun j hj => World.cell?_setCell_other W ⟨g, 5, none⟩ ⟨g, j, none⟩ _ (fun e2 => by have h9 := congrArg Addr.off e2; have h9 : _ = _ := h9; dsimp only at h9; omega)
  exact ⟨(e 0 (by decide)).trans h0, (e 1 (by decide)).trans h1, (e 2 (by decide)).trans h2, (e 3 (by decide)).trans h3, (e 4 (by decide)).trans h4, World.cell?_setCell_same W _ _ h5, fun j => by rw [World.frozen?_setCell]; exact hf j⟩
theorem Box.made (w : World) (x : Nd) (t : TypeId) : Box (w.alloc (.cells #[.int .i64 x.op, .int .i64 x.i, .int .i64 x.e, .int .i64 x.g, .int .i64 x.x, .int .i64 x.y] t)) w.heap.size x := by
  have hh := heap_alloc_new w (.cells #[.int .i64 x.op, .int .i64 x.i, .int .i64 x.e, .int .i64 x.g, .int .i64 x.x, .int .i64 x.y] t)
  have := Lib.cell_of_heap hh
  exact ⟨this 0, this 1, this 2, this 3, this 4, this 5, fun j => Lib.frozen_of_heap hh j⟩
/-- a state of the reference's finish: the walk, the list that is read, the box of the node, what has been left -/
structure RQ (w W : World) (B base bw bd n : Nat) (A : Option Addr) (f : List Nd) (s : Wk) (x : Nd) : Prop where
  st : RW W base bw bd n s
  rd : Reads W B 6 A n (nds f)
  bx : Box W w.heap.size x
  fr : Fr bw bd w W
  lt : w.heap.size < W.heap.size
  rg : some w.heap.size ≠ rowOf W bw
  bs : base ≤ w.heap.size
theorem RQ.start {w : World} {B base bw bd n : Nat} {A : Option Addr} {f : List Nd} {s : Wk} (h : RW w base bw bd n s) (hR : Reads w B 6 A n (nds f)) (hB : B ≤ w.heap.size) (x : Nd) (t : TypeId) :
    RQ w (w.alloc (.cells #[.int .i64 x.op, .int .i64 x.i, .int .i64 x.e, .int .i64 x.g, .int .i64 x.x, .int .i64 x.y] t)) B base bw bd n A f s x := by
  have hb : Below w.heap.size w (w.alloc (.cells #[.int .i64 x.op, .int .i64 x.i, .int .i64 x.e, .int .i64 x.g, .int .i64 x.x, .int .i64 x.y] t)) := (Below.refl _ w).alloc (Nat.le_refl _) _
  have lw : bw < w.heap.size := Nat.lt_of_lt_of_le h.lw h.lb
  refine ⟨h.below hb, hR.alloc hB _, Box.made w x t, Fr.of_below hb lw, by simp, ?_, h.lb⟩
  rw [rowOf_same (hb.cell (p := ⟨bw, 0, none⟩) lw)]
  intro e
  have := (h.row _ e.symm).2
  omega
theorem RQ.step {w W W' : World} {B base bw bd n : Nat} {A : Option Addr} {f : List Nd} {s s' : Wk} {x : Nd} (h : RQ w W B base bw bd n A f s x) (hS : RW W' base bw bd n s') (hF : Fr bw bd W W') (hB1 : B ≤ bw) (hB2 : B ≤ bd) (_hB3 : B ≤ base) :
    RQ w W' B base bw bd n A f s' x := by
  have l0 := h.st.lb
  have lw := h.st.lw
  have ld := h.st.ld
  have l1 := h.fr.size
  have hb := hF.low (B := B) (by omega) hB1 hB2 (fun g hg => by have := (h.st.row g hg).1; omega)
  have l3 := h.bs
  have hne : w.heap.size ≠ bw ∧ w.heap.size ≠ bd := ⟨by omega, by omega⟩
  refine ⟨hS, h.rd.below hb, h.bx.keep (hF.block _ h.lt hne.1 hne.2 h.rg), h.fr.trans hF, Nat.lt_of_lt_of_le h.lt hF.size, ?_, h.bs⟩
  rcases hF.row with e | ⟨g, e, hl⟩
  · rw [e]; exact h.rg
  · rw [e]; intro e2; injection e2; have := h.lt; omega
theorem RQ.set {w W : World} {B base bw bd n : Nat} {A : Option Addr} {f : List Nd} {s : Wk} {x x' : Nd} (h : RQ w W B base bw bd n A f s x) {j : Nat} {v : Value} (hx : Box (W.setCell ⟨w.heap.size, j, none⟩ v) w.heap.size x') (hB3 : B ≤ base) :
    RQ w (W.setCell ⟨w.heap.size, j, none⟩ v) B base bw bd n A f s x' := by
  have l0 := h.bs
  have lw := h.st.lw
  have ld := h.st.ld
  refine ⟨h.st.other v (by omega) (by omega) h.rg, h.rd.setCell (by show B ≤ w.heap.size; omega) v, hx, h.fr.other v (Nat.le_refl _) (by omega), by simpa using h.lt, ?_, l0⟩
  rw [rowOf_same (World.cell?_of_block (a := ⟨bw, 0, none⟩) (Below.heap_setCell _ _ _ _ (by show bw ≠ w.heap.size; omega)))]
  exact h.rg
end Go.Proofs.YtopkmcoblndokaaDoor
