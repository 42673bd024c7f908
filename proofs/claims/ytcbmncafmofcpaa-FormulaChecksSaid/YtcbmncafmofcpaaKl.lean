/- Layer 5: nodes compared, a node appended, the reference put. -/
import Derived.Test.YtcbmncafmofcpaaKk
import Derived.Laws.StructEq
import Derived.Deep.RegionLaw
import Derived.Deep.RegionHeld3
import Derived.Deep.AppendLies
import Derived.KernelRfl
namespace Go.Proofs.Ytcbmncafmofcpaa
open Go.RowKit Go.Proofs.Ws
def eqN (a b : Nd) : Bool := decide (a = b)
theorem eqN_fields (a b : Nd) : (a.op == b.op && (a.i == b.i && (a.e == b.e && (a.g == b.g && (a.x == b.x && a.y == b.y))))) = eqN a b := by
  obtain ⟨a1, a2, a3, a4, a5, a6⟩ := a
  obtain ⟨b1, b2, b3, b4, b5, b6⟩ := b
  unfold eqN
  rw [Bool.eq_iff_iff]
  simp
@[go_sem] theorem Try.eqNode (a b : Nd) (w : World) : (Op.equalIn 10000 44 (.agg #[.int .i64 a.op, .int .i64 a.i, .int .i64 a.e, .int .i64 a.g, .int .i64 a.x, .int .i64 a.y]) (.agg #[.int .i64 b.op, .int .i64 b.i, .int .i64 b.e, .int .i64 b.g, .int .i64 b.x, .int .i64 b.y])).run Try.prog w = .ok (eqN a b) w := by
  have u3 := Try.underlying3
  have a3 := Try.isAgg3
  have z3 := Try.sizeOf3
  have hS : Try.prog.underlying 44 = some (.struct (Try.prog.fieldsOf 44)) := by kernel_rfl
  have hp : Try.prog.stoodInHeld 44 = false := by kernel_rfl
  rw [show (10000 : Nat) = 9999 + 1 from rfl, run_equalIn_agg w 9999 _ _ _ hS hp]
  simp only [Program.fieldsOf, Try.underlying44]
  rw [← eqN_fields]
  go_simp
  by_cases h1 : a.op = b.op <;> by_cases h2 : a.i = b.i <;> by_cases h3 : a.e = b.e <;> by_cases h4 : a.g = b.g <;> by_cases h5 : a.x = b.x <;> by_cases h6 : a.y = b.y <;> simp [h1, h2, h3, h4, h5, h6]
@[go_sem] theorem Try.eqNodeGuard : Try.prog.eqGuardType Try.prog.depth 44 = false := by kernel_rfl
theorem eqRun (a b : Nd) (w : World) : (binOp .eql 44 (.agg #[.int .i64 a.op, .int .i64 a.i, .int .i64 a.e, .int .i64 a.g, .int .i64 a.x, .int .i64 a.y]) (.agg #[.int .i64 b.op, .int .i64 b.i, .int .i64 b.e, .int .i64 b.g, .int .i64 b.x, .int .i64 b.y])).run Try.prog w = .ok (.bool (eqN a b)) w := by
  rw [run_eql_struct, Try.eqNode]
  rfl
theorem idx_at {out : List Nd} {x : Nd} {k : Nat} (h : out.getD k nd0 = x) (hf : ∀ j, j < k → out.getD j nd0 ≠ x) (hk : k < out.length) : out.idxOf x = k := by
  induction out generalizing k with
  | nil => simp at hk
  | cons a r ih =>
    cases k with
    | zero =>
      have : a = x := h
      rw [this]; simp
    | succ k =>
      have h1 : a ≠ x := hf 0 (by omega)
      rw [List.idxOf_cons, show (a == x) = false from by simpa using h1, cond_false, ih (k := k) h (fun j hj => hf (j + 1) (by omega)) (by simpa using hk)]
theorem own_sl {w : World} {base : Nat} {e : TypeId} {v : Value} {n size : Nat} {xs : List Value} (h : w.ownsRow base e size v n xs) : ∃ A c, v = .slice A n c := by
  rcases h.2 with ⟨rfl, rfl⟩ | ⟨g, cap, cur, rfl, _⟩
  · exact ⟨_, _, rfl⟩
  · exact ⟨_, _, rfl⟩
theorem own_keep6 {W W' : World} {lo size : Nat} {e : TypeId} {v : Value} {n : Nat} {xs : List Value} (h : W.ownsRow lo e size v n xs) (hk : ∀ g, lo ≤ g → g < W.heap.size → W'.heap[g]? = W.heap[g]?) : W'.ownsRow lo e size v n xs := by
  refine ⟨h.1, ?_⟩
  rcases h.2 with hn | ⟨g, cap, cur, hv, hb, hg, rest⟩
  · exact .inl hn
  · exact .inr ⟨g, cap, cur, hv, hb, by rw [hk g hb (Array.getElem?_eq_some_iff.1 hg).1]; exact hg, rest⟩
theorem addr_zero (b j : Nat) : (⟨b, 0, none⟩ : Addr).add j = ⟨b, j, none⟩ := by
  cases j <;> simp [Addr.add]
theorem Try.infoNode : (Try.prog.info? 44).map (fun i => (i.zero, i.size, i.bytes)) = some (some (.agg #[.int .i64 0, .int .i64 0, .int .i64 0, .int .i64 0, .int .i64 0, .int .i64 0]), 6, 48) := by kernel_rfl
/-- append of one node to a list of nodes of the call's own -/
theorem wp_appN {ops : Array Oper} {rest : List Oper} {o : Oper} {a : Act} {Q : Exit → Act → World → Prop} {out : List Nd} (n : Nd) (W : World) (hgd : o.guard = none) (s x : Operand)
    (ho : o.op = .call { callee := .builtin .append, args := #[s, x], argTypes := #[22, 22] }) (base b : Nat) (v : Value)
    (hs : a.eval s = v) (hown : W.ownsRow base 44 6 v out.length (nds out)) (hx : a.eval x = .slice (some ⟨b, 0, none⟩) 1 1)
    (hc : ∀ j u, (ndC n)[j]? = some u → W.cell? ⟨b, j, none⟩ = some u) (hl : out.length ≤ 1000) (hbase : base ≤ W.heap.size)
    (h : ∀ v' w', w'.ownsRow base 44 6 v' (out ++ [n]).length (nds (out ++ [n])) → W.grownBy w' v.ownBlock → wpList Try.prog ops Q rest (a.put o.dst v') w') : wpList Try.prog ops Q (o :: rest) a W := by
  obtain ⟨i0, hi, hz0, hz1, hz2⟩ := info_parts Try.infoNode
  refine wpList_append_own W hgd s x 22 ho base 44 i0 _ 6 48 Try.underlying22 hi hz0 hz1 hz2 rfl (by decide) v out.length (nds out) hs hown ⟨b, 0, none⟩ 1 1 (ndC n) hx rfl ?_ ?_ (by unfold maxLen; omega) (by omega) hbase ?_
  · intro j u hj
    have := hc j u hj
    rw [addr_zero]
    exact this
  · intro u hu
    simp only [ndC, List.mem_cons, List.not_mem_nil, or_false] at hu
    rcases hu with rfl | rfl | rfl | rfl | rfl | rfl <;> rfl
  · intro v' w' h1 h2 _
    refine h v' w' ?_ h2
    rw [nds_append, List.length_append]
    have e : nds [n] = ndC n := by simp [nds]
    rw [e]
    exact h1
theorem row_new {v : Value} {g3 n c H H0 : Nat} (h : v.ownBlock = some g3 ∨ H ≤ g3) (hH : H0 ≤ H) : (Value.slice (some ⟨g3, 0, none⟩) n c).ownBlock = v.ownBlock ∨ ∃ g, (Value.slice (some ⟨g3, 0, none⟩) n c).ownBlock = some g ∧ H0 ≤ g := by
  rcases h with h | h
  · exact .inl h.symm
  · exact .inr ⟨g3, rfl, by omega⟩
theorem step_appN {ops : Array Oper} {o : Oper} {a : Act} {K : Act → World → Prop} {Q : Exit → Act → World → Prop} {E : Prop} {out : List Nd} (n : Nd) (W : World) (hgd : o.guard = none) (s x : Operand)
    (ho : o.op = .call { callee := .builtin .append, args := #[s, x], argTypes := #[22, 22] }) (base b : Nat) (v : Value)
    (hs : a.eval s = v) (hown : W.ownsRow base 44 6 v out.length (nds out)) (hx : a.eval x = .slice (some ⟨b, 0, none⟩) 1 1)
    (hc : ∀ j u, (ndC n)[j]? = some u → W.cell? ⟨b, j, none⟩ = some u) (hl : out.length ≤ 1000) (hbase : base ≤ W.heap.size)
    (h : ∀ g cap w', w'.ownsRow base 44 6 (.slice (some ⟨g, 0, none⟩) (out.length + 1) cap) (out ++ [n]).length (nds (out ++ [n])) → W.grownBy w' v.ownBlock → (v.ownBlock = some g ∨ W.heap.size ≤ g) → K (a.put o.dst (.slice (some ⟨g, 0, none⟩) (out.length + 1) cap)) w') :
    if Region.wanted o (yielded ops a.tmps) = true then Oper.wp Try.prog o a W K Q else E := by
  obtain ⟨i0, hi, hz0, hz1, hz2⟩ := info_parts Try.infoNode
  refine step_append_lies W hgd s x 22 ho base 44 i0 _ 6 48 Try.underlying22 hi hz0 hz1 hz2 rfl (by decide) v out.length (nds out) hs hown ⟨b, 0, none⟩ 1 1 (ndC n) hx rfl ?_ ?_ (by decide) (by unfold maxLen; omega) (by omega) hbase _ rfl ?_
  · intro j u hj
    have := hc j u hj
    rw [addr_zero]
    exact this
  · intro u hu
    simp only [ndC, List.mem_cons, List.not_mem_nil, or_false] at hu
    rcases hu with rfl | rfl | rfl | rfl | rfl | rfl <;> rfl
  · intro g cap w' h1 h2 h3 _
    refine h g cap w' ?_ h2 (h3.imp id (fun e => by omega))
    rw [nds_append, List.length_append]
    have e : nds [n] = ndC n := by simp [nds]
    rw [e]
    exact h1
set_option maxRecDepth 100000 in
set_option maxHeartbeats 4000000 in
theorem rPut_old (n : Nd) (out : List Nd) (bw m c : Nat) (A : Option Addr) (w : World) (hbw : bw < w.heap.size) (h0 : w.cell? ⟨bw, 0, none⟩ = some (.slice A m c)) (hR : Reads w w.heap.size 6 A m (nds out)) (hm : m ≤ 1000) (hin : n ∈ out) :
    Calls Try.prog 94 #[.pointer (some ⟨bw, 0, none⟩), nv n] w fun e w' => e = .returned (.int .i64 (out.idxOf n)) ∧ Below w.heap.size w w' := by
  have hl := hR.nd_len
  have HL := Lib.hid hl
  have HR := Lib.hid hR
  have HB : Hid (∀ o, Below w.heap.size w (w.alloc o)) := Lib.hid (fun o => (Below.refl _ w).alloc (Nat.le_refl _) o)
  have HN := Lib.hid (@nd_boxed w n 44 _ rfl)
  have HC : Hid (∀ wr, Below w.heap.size w wr → wr.cell? ⟨bw, 0, none⟩ = some (.slice A m c)) := Lib.hid (fun wr h => (h.cell (p := ⟨bw, 0, none⟩) hbw).trans h0)
  have HI := Lib.hid hin
  unfold nv
  clear hR hl hin h0
  go_enter Try.func94, Try.ntmps94
  go_wp2
  go_loopw [5] (fun i wr => ∃ k : Nat, k ≤ m ∧ i = .int .i64 k ∧ Hid (∀ j, j < k → out.getD j nd0 ≠ n) ∧ Hid (Below (w.heap.size + 1) (w.alloc (.cells #[.int .i64 n.op, .int .i64 n.i, .int .i64 n.e, .int .i64 n.g, .int .i64 n.x, .int .i64 n.y] 44)) wr)) (fun i _ => m - (intOf i).toNat)
  case atStart => exact ⟨0, Nat.zero_le _, rfl, Lib.hid (fun j hj => absurd hj (by omega)), Lib.hid (Below.refl _ _)⟩
  case round =>
    obtain ⟨k, hk, rfl, HF, HBR⟩ := hrel
    have HBW := Lib.hid ((HB.out (.cells #[.int .i64 n.op, .int .i64 n.i, .int .i64 n.e, .int .i64 n.g, .int .i64 n.x, .int .i64 n.y] 44)).trans (HBR.out.mono (by simp)))
    have hc0 := HC.out _ HBW.out
    by_cases hlt : k < m
    · obtain ⟨ad, rfl, hb, m0, m1, m2, m3, m4, m5⟩ := (HR.out.below HBW.out).nd_at hlt
      obtain ⟨n0, n1, n2, n3, n4, n5⟩ := HN.out _ HBR.out
      obtain ⟨x, hx⟩ : ∃ x, out.getD k nd0 = x := ⟨_, rfl⟩
      rw [hx] at m0 m1 m2 m3 m4 m5
      have HX := Lib.hid hx
      clear hx
      have l1 := add_cell m1
      have l2 := add_cell m2
      have l3 := add_cell m3
      have l4 := add_cell m4
      have l5 := add_cell m5
      by_cases he : x = n
      · subst he
        go_wp2
        go_quiet (fail)
        go_wp2
        go_ret
        exact ⟨ret_i64 (by rw [idx_at HX.out HF.out (by have := HL.out; omega)]), HBW.out.trans (below_drewN (Below.refl _ _) _)⟩
      · have hq : eqN x n = false := by unfold eqN; exact decide_eq_false he
        have hE := eqRun x n
        rw [hq] at hE
        go_wp2
        go_quiet (fail)
        go_wp2
        go_roundw
        case rel => exact ⟨k + 1, by omega, by go_num, Lib.hid (fun j hj => by
          by_cases e : j = k
          · subst e; rw [HX.out]; exact he
          · exact HF.out j (by omega)), Lib.hid (below_drewN HBR.out _)⟩
        case measure => simp [intOf]; omega
    · have : False := by
        obtain ⟨j, hj, hj2⟩ := List.getElem_of_mem HI.out
        refine HF.out j (by have := HL.out; omega) ?_
        rw [← hj2]; simp [hj]
      exact this.elim
set_option maxRecDepth 100000 in
set_option maxHeartbeats 4000000 in
theorem rPut_new (n : Nd) (out : List Nd) (bw m c base : Nat) (A : Option Addr) (w : World) (hbw : bw < base) (hbase : base ≤ w.heap.size) (h0 : w.cell? ⟨bw, 0, none⟩ = some (.slice A m c)) (hf0 : w.frozen? ⟨bw, 0, none⟩ = false)
    (hR : Reads w w.heap.size 6 A m (nds out)) (hown : w.ownsRow base 44 6 (.slice A m c) out.length (nds out)) (hm : m ≤ 1000) (hin : n ∉ out) :
    Calls Try.prog 94 #[.pointer (some ⟨bw, 0, none⟩), nv n] w fun e w' => e = .returned (.int .i64 (out.length : Int)) ∧ ∃ v' : Value, ∃ w1 : World, w1.ownsRow base 44 6 v' (out ++ [n]).length (nds (out ++ [n])) ∧ w.grownBy w1 (Value.slice A m c).ownBlock ∧ (v'.ownBlock = (Value.slice A m c).ownBlock ∨ ∃ g, v'.ownBlock = some g ∧ w.heap.size ≤ g) ∧ w' = w1.setCell ⟨bw, 0, none⟩ v' := by
  have hl := hR.nd_len
  have HL := Lib.hid hl
  have HR := Lib.hid hR
  have HO := Lib.hid hown
  have HB : Hid (∀ o, Below w.heap.size w (w.alloc o)) := Lib.hid (fun o => (Below.refl _ w).alloc (Nat.le_refl _) o)
  have HN := Lib.hid (@nd_boxed w n 44 _ rfl)
  have HC : Hid (∀ wr, Below w.heap.size w wr → wr.cell? ⟨bw, 0, none⟩ = some (.slice A m c) ∧ wr.frozen? ⟨bw, 0, none⟩ = false) := Lib.hid (fun wr h => ⟨(h.cell (p := ⟨bw, 0, none⟩) (by show bw < _; omega)).trans h0, (h.frozen (p := ⟨bw, 0, none⟩) (by show bw < _; omega)).trans hf0⟩)
  have HI := Lib.hid hin
  unfold nv
  clear hR hl h0 hf0 hown
  go_enter Try.func94, Try.ntmps94
  go_wp2
  go_loopw [5] (fun i wr => ∃ k : Nat, k ≤ m ∧ i = .int .i64 k ∧ Hid (Below (w.heap.size + 1) (w.alloc (.cells #[.int .i64 n.op, .int .i64 n.i, .int .i64 n.e, .int .i64 n.g, .int .i64 n.x, .int .i64 n.y] 44)) wr)) (fun i _ => m - (intOf i).toNat)
  case atStart => exact ⟨0, Nat.zero_le _, rfl, Lib.hid (Below.refl _ _)⟩
  case round =>
    obtain ⟨k, hk, rfl, HBR⟩ := hrel
    have HBW := Lib.hid ((HB.out (.cells #[.int .i64 n.op, .int .i64 n.i, .int .i64 n.e, .int .i64 n.g, .int .i64 n.x, .int .i64 n.y] 44)).trans (HBR.out.mono (by simp)))
    obtain ⟨hc0, hf0⟩ := HC.out _ HBW.out
    obtain ⟨n0, n1, n2, n3, n4, n5⟩ := HN.out _ HBR.out
    by_cases hlt : k < m
    · obtain ⟨ad, rfl, hb, m0, m1, m2, m3, m4, m5⟩ := (HR.out.below HBW.out).nd_at hlt
      obtain ⟨x, hx⟩ : ∃ x, out.getD k nd0 = x := ⟨_, rfl⟩
      rw [hx] at m0 m1 m2 m3 m4 m5
      have he : x ≠ n := fun e => HI.out (by
        have hk2 : k < out.length := by have := HL.out; omega
        have : out[k] = n := by rw [← e, ← hx]; simp [hk2]
        rw [← this]; exact List.getElem_mem hk2)
      clear hx
      have l1 := add_cell m1
      have l2 := add_cell m2
      have l3 := add_cell m3
      have l4 := add_cell m4
      have l5 := add_cell m5
      have hq : eqN x n = false := by unfold eqN; exact decide_eq_false he
      have hE := eqRun x n
      rw [hq] at hE
      clear he hin
      go_wp2
      go_quiet (fail)
      go_wp2
      go_roundw
      case rel => exact ⟨k + 1, by omega, by go_num, Lib.hid (below_drewN HBR.out _)⟩
      case measure => simp [intOf]; omega
    · have hlt2 : decide ((k : Int) < (m : Int)) = false := by simp; omega
      have HO2 : Hid (base ≤ wr.heap.size) := Lib.hid (Nat.le_trans hbase HBW.out.size)
      have HBA : Hid (∀ o, Below w.heap.size w (wr.drew.alloc o)) := Lib.hid (fun o => HBW.out.drew.alloc HBW.out.size o)
      have HNE : Hid (some bw ≠ (Value.slice A m c).ownBlock) := Lib.hid (fun e => by have := (HO.out.lt bw e.symm).1; omega)
      have hO1 : Hid (∀ o, (wr.drew.alloc o).ownsRow base 44 6 (.slice A m c) out.length (nds out)) := Lib.hid (fun o => own_keep6 HO.out (fun g _ hg => (HBA.out o).block g hg))
      have hO2 : Hid (∀ o, base ≤ (wr.drew.alloc o).heap.size) := Lib.hid (fun o => Nat.le_trans hbase (HBA.out o).size)
      have hO3 : Hid (∀ j u, (ndC n)[j]? = some u → (wr.drew.alloc (.cells #[.int .i64 n.op, .int .i64 n.i, .int .i64 n.e, .int .i64 n.g, .int .i64 n.x, .int .i64 n.y] 44)).cell? ⟨wr.heap.size, j, none⟩ = some u) := Lib.hid (fun j u hj => by
        have hh := heap_alloc_new wr.drew (.cells #[.int .i64 n.op, .int .i64 n.i, .int .i64 n.e, .int .i64 n.g, .int .i64 n.x, .int .i64 n.y] 44)
        have := Lib.cell_of_heap hh j
        rw [show (⟨wr.heap.size, j, none⟩ : Addr) = ⟨wr.drew.heap.size, j, none⟩ from rfl, this, ← hj]
        simp [ndC])
      have HW : Hid (∀ o w3, (wr.drew.alloc o).grownBy w3 (Value.slice A m c).ownBlock → w.grownBy w3 (Value.slice A m c).ownBlock ∧ w3.cell? ⟨bw, 0, none⟩ = some (.slice A m c) ∧ w3.frozen? ⟨bw, 0, none⟩ = false) := Lib.hid (fun o w3 hg => by
        have hb := HBA.out o
        obtain ⟨c1, c2⟩ := HC.out _ hb
        have hlt3 : bw < (wr.drew.alloc o).heap.size := Nat.lt_of_lt_of_le (Nat.lt_of_lt_of_le hbw hbase) hb.size
        exact ⟨⟨hg.os.trans hb.os, hg.tape.trans hb.tape, hg.output.trans hb.output, Nat.le_trans hb.size hg.size, fun g hg1 hg2 => (hg.block g (Nat.lt_of_lt_of_le hg1 hb.size) hg2).trans (hb.block g hg1)⟩,
          (hg.cell_far ⟨bw, 0, none⟩ hlt3 HNE.out).trans c1, (hg.frozen_far ⟨bw, 0, none⟩ hlt3 HNE.out).trans c2⟩)
      have e0 := World.new_ne wr _ hc0
      have ebw : bw < wr.heap.size := by have := HO2.out; omega
      have ebn : bw ≠ wr.heap.size := by omega
      have hlen : out.length ≤ 1000 := by have := HL.out; omega
      clear hin
      go_wp2
      go_region_law
        ((refine step_appN n _ (by rfl) _ _ (by rfl) base _ _ (by rfl) (hO1.out _) (by rfl) hO3.out hlen (hO2.out _) ?_; intro g3 c3 w3 ho3 hg3 hr3; obtain ⟨hg4, k0, k1⟩ := HW.out _ _ hg3; have HH := Lib.hid (And.intro ho3 (And.intro hg4 (row_new (n := out.length + 1) (c := c3) hr3 (HBA.out _).size))); clear ho3 hg3 hg4 hr3))
      all_goals clear n0 n1 n2 n3 n4 n5 hc0 hf0 e0 ebw ebn hlt2
      all_goals go_wp2
      all_goals go_ret
      all_goals exact ⟨ret_i64 (by first | rfl | (simp; done) | omega), _, _, HH.out.1, HH.out.2.1, HH.out.2.2, rfl⟩
end Go.Proofs.Ytcbmncafmofcpaa
