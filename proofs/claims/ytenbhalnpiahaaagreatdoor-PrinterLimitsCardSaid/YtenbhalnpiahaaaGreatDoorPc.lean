/- Layer 6: texts joined: Xf Xh Xi. -/
import Derived.Test.YtenbhalnpiahaaaGreatDoorPb
/- Layer 7: a node is written (when it is full; constants; operators before an operand). -/
namespace Go.Proofs.YtenbhalnpiahaaaGreatDoor
open Go.RowKit Go.Proofs.Ws
def NodeRun (K : QK) (i : Nat) (W : World) (t : List UInt8) : Prop := Calls Tryz.prog 29 #[.pointer (some ⟨K.w0.heap.size, 0, none⟩), .int .i64 (i : Int)] W fun e w' => e = .returned (.tuple #[]) ∧
  ∃ t', QP K w' t' ∧ Ext t (tx K.A K.F K.X K.l i) t' ∧ t'.length ≤ max t.length (4000 + 300 * (i + 1)) ∧ Oth W w'
theorem node_full {K : QK} {i : Nat} {W : World} {t : List UInt8} (h : QP K W t) (hf : 4000 < t.length) : NodeRun K i W t := by
  have HF := Lib.hid (qFull_any h)
  have HQ := Lib.hid h
  rw [decide_eq_true hf] at HF
  have HR : Hid (∃ t', QP K W t' ∧ Ext t (tx K.A K.F K.X K.l i) t' ∧ t'.length ≤ max t.length (4000 + 300 * (i + 1)) ∧ Oth W W) := Lib.hid ⟨t, h, Ext.full hf _, by omega, Oth.refl _⟩
  clear h hf
  unfold NodeRun
  go_enter Tryz.func29, Tryz.ntmps29
  go_wp2_with fail
  refine (HF.out).mono ?_
  rintro e w1 ⟨rfl, rfl⟩
  go_wp2
  first | go_end0 | (refine bodyPost_ret (results_none rfl _ _ _) rfl ?_)
  exact ⟨rfl, HR.out⟩
set_option maxRecDepth 100000 in
set_option maxHeartbeats 8000000 in
theorem node_const {K : QK} (hE : QE K) (hL : LayW K.w0) {i : Nat} (hi : i < K.l.length) {n : Nd} (hn : K.l.getD i nd0 = n) (ho : opsL K.l) (hop : n.op = 1 ∨ n.op = 2)
    {w : World} {t : List UInt8} (h : QP K w t) (hfull : ¬ 4000 < t.length) : NodeRun K i w t := by
  have HTX := Lib.hid (k_const (A := K.A) (F := K.F) (X := K.X) ho hi hn hop)
  obtain ⟨m, hm⟩ : ∃ m : Nat, n.op = (m : Int) := ⟨n.op.toNat, by (try unfold MidN at hop); omega⟩
  have hm1 : 1 ≤ m ∧ m < 22 := by (try unfold MidN at hop); omega
  have hkind : kindN (m : Int) = 0 := by rw [← hm]; rcases hop with h9 | h9 <;> rw [h9] <;> rfl
  obtain ⟨ad, hA, hb, m0, m1, m2, m3, m4, m5⟩ := hE.ls.nd_at hi
  have HF := Lib.hid (qFull_any h)
  have hq := h.size
  have hll := hE.ll
  have h1 := (h.below ((Below.refl _ w).alloc (Nat.le_refl _) (.cells #[.int .i64 n.op, .int .i64 n.i, .int .i64 n.e, .int .i64 n.g, .int .i64 n.x, .int .i64 n.y] 65)))
  have HLY : Hid (∀ o, LayW (w.alloc o)) := Lib.hid (fun o => (hL.below h.be).below ((Below.refl _ w).alloc (Nat.le_refl _) o))
  rw [hn] at m0 m1 m2 m3 m4 m5
  have hadb : ∀ q, (ad.add q).block < K.w0.heap.size := fun q => by rw [block_of_add]; exact hb
  have p0 := h.keep (a := ad.add (i * 6)) (hadb _) m0
  have p1 := add_cell (h.keep (a := ad.add (i * 6 + 1)) (hadb _) m1)
  have p2 := add_cell (h.keep (a := ad.add (i * 6 + 2)) (hadb _) m2)
  have p3 := add_cell (h.keep (a := ad.add (i * 6 + 3)) (hadb _) m3)
  have p4 := add_cell (h.keep (a := ad.add (i * 6 + 4)) (hadb _) m4)
  have p5 := add_cell (h.keep (a := ad.add (i * 6 + 5)) (hadb _) m5)
  obtain ⟨c0, c1, c2, c3⟩ := h.cells
  rw [hA] at c3
  rw [hm] at p0 HTX h1
  have hf : decide (4000 < t.length) = false := decide_eq_false hfull
  rw [hf] at HF
  obtain ⟨r0, r1, r2, r3, r4⟩ := (HLY.out (.cells #[.int .i64 (m : Int), .int .i64 n.i, .int .i64 n.e, .int .i64 n.g, .int .i64 n.x, .int .i64 n.y] 65)).at_ hm1.1 hm1.2
  rw [hkind] at r0
  have hm22 := hm1.2
  have HQ0 : Hid (QP K ((w.alloc (.cells #[.int .i64 (m : Int), .int .i64 n.i, .int .i64 n.e, .int .i64 n.g, .int .i64 n.x, .int .i64 n.y] 65)).alloc (.cells #[.int .i64 0, .string (wordB (m : Int)), .int .i64 ((levN (m : Int) : Nat) : Int), .int .i64 ((reqX (m : Int) : Nat) : Int), .int .i64 ((reqY (m : Int) : Nat) : Int)] 79)) t) := Lib.hid (h1.below ((Below.refl _ _).alloc (Nat.le_refl _) _))
  have HO0 : Hid (Oth w ((w.alloc (.cells #[.int .i64 (m : Int), .int .i64 n.i, .int .i64 n.e, .int .i64 n.g, .int .i64 n.x, .int .i64 n.y] 65)).alloc (.cells #[.int .i64 0, .string (wordB (m : Int)), .int .i64 ((levN (m : Int) : Nat) : Int), .int .i64 ((reqX (m : Int) : Nat) : Int), .int .i64 ((reqY (m : Int) : Nat) : Int)] 79))) := Lib.hid (((Oth.refl w).alloc _).alloc _)
  have HS0 : Hid (w.heap.size + 1 + 1 = ((w.alloc (.cells #[.int .i64 (m : Int), .int .i64 n.i, .int .i64 n.e, .int .i64 n.g, .int .i64 n.x, .int .i64 n.y] 65)).alloc (.cells #[.int .i64 0, .string (wordB (m : Int)), .int .i64 ((levN (m : Int) : Nat) : Int), .int .i64 ((reqX (m : Int) : Nat) : Int), .int .i64 ((reqY (m : Int) : Nat) : Int)] 79)).heap.size) := Lib.hid (by simp)
  have HBX : Hid (∀ W, Oth ((w.alloc (.cells #[.int .i64 (m : Int), .int .i64 n.i, .int .i64 n.e, .int .i64 n.g, .int .i64 n.x, .int .i64 n.y] 65)).alloc (.cells #[.int .i64 0, .string (wordB (m : Int)), .int .i64 ((levN (m : Int) : Nat) : Int), .int .i64 ((reqX (m : Int) : Nat) : Int), .int .i64 ((reqY (m : Int) : Nat) : Int)] 79)) W → W.heap[w.heap.size]? = some (.cells #[.int .i64 (m : Int), .int .i64 n.i, .int .i64 n.e, .int .i64 n.g, .int .i64 n.x, .int .i64 n.y] 65 (0, 0)) ∧ W.heap[w.heap.size + 1]? = some (.cells #[.int .i64 0, .string (wordB (m : Int)), .int .i64 ((levN (m : Int) : Nat) : Int), .int .i64 ((reqX (m : Int) : Nat) : Int), .int .i64 ((reqY (m : Int) : Nat) : Int)] 79 (0, 0))) := Lib.hid (fun W hW => by
    refine ⟨hW _ _ _ (by decide) (by decide) ?_, hW _ _ _ (by decide) (by decide) ?_⟩
    · rw [Below.heap_alloc _ _ _ (by simp)]; exact heap_alloc_new w _
    · have := heap_alloc_new (w.alloc (.cells #[.int .i64 (m : Int), .int .i64 n.i, .int .i64 n.e, .int .i64 n.g, .int .i64 n.x, .int .i64 n.y] 65)) (.cells #[.int .i64 0, .string (wordB (m : Int)), .int .i64 ((levN (m : Int) : Nat) : Int), .int .i64 ((reqX (m : Int) : Nat) : Int), .int .i64 ((reqY (m : Int) : Nat) : Int)] 79)
      simpa using this)
  have hwz := wordB_size (m : Int)
  have z32 : (⟨#[32]⟩ : ByteArray).size = 1 := rfl
  have z91 : (⟨#[91]⟩ : ByteArray).size = 1 := rfl
  have z93 : (⟨#[93]⟩ : ByteArray).size = 1 := rfl
  unfold NodeRun
  clear hE hL hn ho hop m0 m1 m2 m3 m4 m5 hadb hA hb hm1 hkind hf c0 c1 c2 hm h h1
  go_enter Tryz.func29, Tryz.ntmps29
  go_wp2_with fail
  refine (HF.out).mono ?_
  rintro e w1 ⟨rfl, hw⟩
  subst w1
  have hc1 : (catB [wordB (m : Int)]).length ≤ 5 := by simp only [catB_cons, catB_nil]; omega
  have HW1 := Lib.hid (qWr1 HQ0.out (wordB (m : Int)) (by omega) (w.heap.size + 1 + 1) HS0.out)
  go_wp2_with fail
  refine (HW1.out).mono ?_
  rintro e u1 ⟨rfl, hq1, ho1⟩
  have HQ1 := Lib.hid hq1
  have HE1 := Lib.hid (Ext.app t (catB [wordB (m : Int)]))
  have hl1 : (t ++ catB [wordB (m : Int)]).length ≤ 4000 + 300 * i + 5 := by rw [List.length_append]; omega
  generalize ht1 : (t ++ catB [wordB (m : Int)]) = t1 at *
  clear ht1 hc1 HW1
  have HO1 := Lib.hid (ho1)
  obtain ⟨b1, b2⟩ := HBX.out _ HO1.out
  have x4 := Lib.cell_of_heap b1 4
  have x5 := Lib.cell_of_heap b1 5
  have y3 := Lib.cell_of_heap b2 3
  have y4 := Lib.cell_of_heap b2 4
  have y1 := Lib.cell_of_heap b2 1
  simp only [List.getElem?_toArray, List.getElem?_cons_succ, List.getElem?_cons_zero] at x4 x5 y3 y4 y1
  clear hq1 ho1 b1 b2
  have HR : Hid (∃ t', QP K u1 t' ∧ Ext t (tx K.A K.F K.X K.l i) t' ∧ t'.length ≤ max t.length (4000 + 300 * (i + 1)) ∧ Oth w u1) := Lib.hid ⟨_, HQ1.out, by rw [HTX.out]; simpa only [List.append_assoc] using HE1.out, by omega, HO0.out.trans HO1.out⟩
  clear HQ1 HE1
  go_wp2
  first | go_end0 | (refine bodyPost_ret (results_none rfl _ _ _) rfl ?_)
  exact ⟨rfl, HR.out⟩
set_option maxRecDepth 100000 in
set_option maxHeartbeats 8000000 in
theorem node_before {K : QK} (hE : QE K) (hL : LayW K.w0) {i : Nat} (hi : i < K.l.length) {n : Nd} (hn : K.l.getD i nd0 = n) (ho : opsL K.l) (hop : n.op = 4 ∨ n.op = 18 ∨ n.op = 20) (hx : OperOK K n.x.toNat (reqX n.op)) (hxi : 0 ≤ n.x ∧ n.x.toNat < i)
    {w : World} {t : List UInt8} (h : QP K w t) (hfull : ¬ 4000 < t.length) : NodeRun K i w t := by
  have HTX := Lib.hid (k_before (A := K.A) (F := K.F) (X := K.X) ho hi hn hop)
  obtain ⟨m, hm⟩ : ∃ m : Nat, n.op = (m : Int) := ⟨n.op.toNat, by (try unfold MidN at hop); omega⟩
  have hm1 : 1 ≤ m ∧ m < 22 := by (try unfold MidN at hop); omega
  have hkind : kindN (m : Int) = 2 := by rw [← hm]; rcases hop with h9 | h9 | h9 <;> rw [h9] <;> rfl
  obtain ⟨ad, hA, hb, m0, m1, m2, m3, m4, m5⟩ := hE.ls.nd_at hi
  have HF := Lib.hid (qFull_any h)
  have hq := h.size
  have hll := hE.ll
  have h1 := (h.below ((Below.refl _ w).alloc (Nat.le_refl _) (.cells #[.int .i64 n.op, .int .i64 n.i, .int .i64 n.e, .int .i64 n.g, .int .i64 n.x, .int .i64 n.y] 65)))
  have HLY : Hid (∀ o, LayW (w.alloc o)) := Lib.hid (fun o => (hL.below h.be).below ((Below.refl _ w).alloc (Nat.le_refl _) o))
  rw [hn] at m0 m1 m2 m3 m4 m5
  have hadb : ∀ q, (ad.add q).block < K.w0.heap.size := fun q => by rw [block_of_add]; exact hb
  have p0 := h.keep (a := ad.add (i * 6)) (hadb _) m0
  have p1 := add_cell (h.keep (a := ad.add (i * 6 + 1)) (hadb _) m1)
  have p2 := add_cell (h.keep (a := ad.add (i * 6 + 2)) (hadb _) m2)
  have p3 := add_cell (h.keep (a := ad.add (i * 6 + 3)) (hadb _) m3)
  have p4 := add_cell (h.keep (a := ad.add (i * 6 + 4)) (hadb _) m4)
  have p5 := add_cell (h.keep (a := ad.add (i * 6 + 5)) (hadb _) m5)
  obtain ⟨c0, c1, c2, c3⟩ := h.cells
  rw [hA] at c3
  obtain ⟨x, hxn⟩ : ∃ x : Nat, n.x = (x : Int) := ⟨n.x.toNat, by omega⟩
  rw [hxn] at p4 hxi h1
  rw [hxn, Int.toNat_natCast] at HTX hx
  obtain ⟨_, hxi⟩ := hxi
  rw [Int.toNat_natCast] at hxi
  rw [hm] at p0 HTX h1 hx
  have hf : decide (4000 < t.length) = false := decide_eq_false hfull
  rw [hf] at HF
  obtain ⟨r0, r1, r2, r3, r4⟩ := (HLY.out (.cells #[.int .i64 (m : Int), .int .i64 n.i, .int .i64 n.e, .int .i64 n.g, .int .i64 (x : Int), .int .i64 n.y] 65)).at_ hm1.1 hm1.2
  rw [hkind] at r0
  have hm22 := hm1.2
  have HQ0 : Hid (QP K ((w.alloc (.cells #[.int .i64 (m : Int), .int .i64 n.i, .int .i64 n.e, .int .i64 n.g, .int .i64 (x : Int), .int .i64 n.y] 65)).alloc (.cells #[.int .i64 2, .string (wordB (m : Int)), .int .i64 ((levN (m : Int) : Nat) : Int), .int .i64 ((reqX (m : Int) : Nat) : Int), .int .i64 ((reqY (m : Int) : Nat) : Int)] 79)) t) := Lib.hid (h1.below ((Below.refl _ _).alloc (Nat.le_refl _) _))
  have HO0 : Hid (Oth w ((w.alloc (.cells #[.int .i64 (m : Int), .int .i64 n.i, .int .i64 n.e, .int .i64 n.g, .int .i64 (x : Int), .int .i64 n.y] 65)).alloc (.cells #[.int .i64 2, .string (wordB (m : Int)), .int .i64 ((levN (m : Int) : Nat) : Int), .int .i64 ((reqX (m : Int) : Nat) : Int), .int .i64 ((reqY (m : Int) : Nat) : Int)] 79))) := Lib.hid (((Oth.refl w).alloc _).alloc _)
  have HS0 : Hid (w.heap.size + 1 + 1 = ((w.alloc (.cells #[.int .i64 (m : Int), .int .i64 n.i, .int .i64 n.e, .int .i64 n.g, .int .i64 (x : Int), .int .i64 n.y] 65)).alloc (.cells #[.int .i64 2, .string (wordB (m : Int)), .int .i64 ((levN (m : Int) : Nat) : Int), .int .i64 ((reqX (m : Int) : Nat) : Int), .int .i64 ((reqY (m : Int) : Nat) : Int)] 79)).heap.size) := Lib.hid (by simp)
  have HBX : Hid (∀ W, Oth ((w.alloc (.cells #[.int .i64 (m : Int), .int .i64 n.i, .int .i64 n.e, .int .i64 n.g, .int .i64 (x : Int), .int .i64 n.y] 65)).alloc (.cells #[.int .i64 2, .string (wordB (m : Int)), .int .i64 ((levN (m : Int) : Nat) : Int), .int .i64 ((reqX (m : Int) : Nat) : Int), .int .i64 ((reqY (m : Int) : Nat) : Int)] 79)) W → W.heap[w.heap.size]? = some (.cells #[.int .i64 (m : Int), .int .i64 n.i, .int .i64 n.e, .int .i64 n.g, .int .i64 (x : Int), .int .i64 n.y] 65 (0, 0)) ∧ W.heap[w.heap.size + 1]? = some (.cells #[.int .i64 2, .string (wordB (m : Int)), .int .i64 ((levN (m : Int) : Nat) : Int), .int .i64 ((reqX (m : Int) : Nat) : Int), .int .i64 ((reqY (m : Int) : Nat) : Int)] 79 (0, 0))) := Lib.hid (fun W hW => by
    refine ⟨hW _ _ _ (by decide) (by decide) ?_, hW _ _ _ (by decide) (by decide) ?_⟩
    · rw [Below.heap_alloc _ _ _ (by simp)]; exact heap_alloc_new w _
    · have := heap_alloc_new (w.alloc (.cells #[.int .i64 (m : Int), .int .i64 n.i, .int .i64 n.e, .int .i64 n.g, .int .i64 (x : Int), .int .i64 n.y] 65)) (.cells #[.int .i64 2, .string (wordB (m : Int)), .int .i64 ((levN (m : Int) : Nat) : Int), .int .i64 ((reqX (m : Int) : Nat) : Int), .int .i64 ((reqY (m : Int) : Nat) : Int)] 79)
      simpa using this)
  have hwz := wordB_size (m : Int)
  have z32 : (⟨#[32]⟩ : ByteArray).size = 1 := rfl
  have z91 : (⟨#[91]⟩ : ByteArray).size = 1 := rfl
  have z93 : (⟨#[93]⟩ : ByteArray).size = 1 := rfl
  have Hx := Lib.hid hx
  unfold NodeRun
  clear hE hL hn ho hop m0 m1 m2 m3 m4 m5 hadb hA hb hm1 hkind hf c0 c1 c2 hm h h1 hx hxn
  go_enter Tryz.func29, Tryz.ntmps29
  go_wp2_with fail
  refine (HF.out).mono ?_
  rintro e w1 ⟨rfl, hw⟩
  subst w1
  have hc1 : (catB [wordB (m : Int)]).length ≤ 5 := by simp only [catB_cons, catB_nil]; omega
  have HW1 := Lib.hid (qWr1 HQ0.out (wordB (m : Int)) (by omega) (w.heap.size + 1 + 1) HS0.out)
  go_wp2_with fail
  refine (HW1.out).mono ?_
  rintro e u1 ⟨rfl, hq1, ho1⟩
  have HQ1 := Lib.hid hq1
  have HE1 := Lib.hid (Ext.app t (catB [wordB (m : Int)]))
  have hl1 : (t ++ catB [wordB (m : Int)]).length ≤ 4000 + 300 * i + 5 := by rw [List.length_append]; omega
  generalize ht1 : (t ++ catB [wordB (m : Int)]) = t1 at *
  clear ht1 hc1 HW1
  have HO1 := Lib.hid (ho1)
  obtain ⟨b1, b2⟩ := HBX.out _ HO1.out
  have x4 := Lib.cell_of_heap b1 4
  have x5 := Lib.cell_of_heap b1 5
  have y3 := Lib.cell_of_heap b2 3
  have y4 := Lib.cell_of_heap b2 4
  have y1 := Lib.cell_of_heap b2 1
  simp only [List.getElem?_toArray, List.getElem?_cons_succ, List.getElem?_cons_zero] at x4 x5 y3 y4 y1
  clear hq1 ho1 b1 b2
  have HP2 := Lib.hid (Hx.out _ _ HQ1.out (by omega))
  go_wp2_with fail
  refine (HP2.out).mono ?_
  rintro e u2 ⟨rfl, t2, hq2, he2, hm2, ho2⟩
  have hl2 : t2.length ≤ 4000 + 300 * i + 8 := by omega
  have HQ2 := Lib.hid hq2
  have HE2 := Lib.hid (HE1.out.trans he2)
  clear HP2 hm2 he2
  have HO2 := Lib.hid (HO1.out.trans ho2)
  obtain ⟨b1, b2⟩ := HBX.out _ HO2.out
  have x4 := Lib.cell_of_heap b1 4
  have x5 := Lib.cell_of_heap b1 5
  have y3 := Lib.cell_of_heap b2 3
  have y4 := Lib.cell_of_heap b2 4
  have y1 := Lib.cell_of_heap b2 1
  simp only [List.getElem?_toArray, List.getElem?_cons_succ, List.getElem?_cons_zero] at x4 x5 y3 y4 y1
  clear hq2 ho2 b1 b2
  have HR : Hid (∃ t', QP K u2 t' ∧ Ext t (tx K.A K.F K.X K.l i) t' ∧ t'.length ≤ max t.length (4000 + 300 * (i + 1)) ∧ Oth w u2) := Lib.hid ⟨_, HQ2.out, by rw [HTX.out]; simpa only [List.append_assoc] using HE2.out, by omega, HO0.out.trans HO2.out⟩
  clear HQ1 HE1 HQ2 HE2
  go_wp2
  first | go_end0 | (refine bodyPost_ret (results_none rfl _ _ _) rfl ?_)
  exact ⟨rfl, HR.out⟩
end Go.Proofs.YtenbhalnpiahaaaGreatDoor
/- Layer 7: a node is written (operators between operands). -/
namespace Go.Proofs.YtenbhalnpiahaaaGreatDoor
open Go.RowKit Go.Proofs.Ws
set_option maxRecDepth 100000 in
set_option maxHeartbeats 8000000 in
theorem node_between {K : QK} (hE : QE K) (hL : LayW K.w0) {i : Nat} (hi : i < K.l.length) {n : Nd} (hn : K.l.getD i nd0 = n) (ho : opsL K.l) (hop : MidN n.op) (hx : OperOK K n.x.toNat (reqX n.op)) (hxi : 0 ≤ n.x ∧ n.x.toNat < i) (hy : OperOK K n.y.toNat (reqY n.op)) (hyi : 0 ≤ n.y ∧ n.y.toNat < i)
    {w : World} {t : List UInt8} (h : QP K w t) (hfull : ¬ 4000 < t.length) : NodeRun K i w t := by
  have HTX := Lib.hid (k_between (A := K.A) (F := K.F) (X := K.X) ho hi hn hop)
  obtain ⟨m, hm⟩ : ∃ m : Nat, n.op = (m : Int) := ⟨n.op.toNat, by (try unfold MidN at hop); omega⟩
  have hm1 : 1 ≤ m ∧ m < 22 := by (try unfold MidN at hop); omega
  have hkind : kindN (m : Int) = 3 := by rw [← hm]; rcases hop with h9 | h9 | h9 | h9 | h9 | h9 <;> rw [h9] <;> rfl
  obtain ⟨ad, hA, hb, m0, m1, m2, m3, m4, m5⟩ := hE.ls.nd_at hi
  have HF := Lib.hid (qFull_any h)
  have hq := h.size
  have hll := hE.ll
  have h1 := (h.below ((Below.refl _ w).alloc (Nat.le_refl _) (.cells #[.int .i64 n.op, .int .i64 n.i, .int .i64 n.e, .int .i64 n.g, .int .i64 n.x, .int .i64 n.y] 65)))
  have HLY : Hid (∀ o, LayW (w.alloc o)) := Lib.hid (fun o => (hL.below h.be).below ((Below.refl _ w).alloc (Nat.le_refl _) o))
  rw [hn] at m0 m1 m2 m3 m4 m5
  have hadb : ∀ q, (ad.add q).block < K.w0.heap.size := fun q => by rw [block_of_add]; exact hb
  have p0 := h.keep (a := ad.add (i * 6)) (hadb _) m0
  have p1 := add_cell (h.keep (a := ad.add (i * 6 + 1)) (hadb _) m1)
  have p2 := add_cell (h.keep (a := ad.add (i * 6 + 2)) (hadb _) m2)
  have p3 := add_cell (h.keep (a := ad.add (i * 6 + 3)) (hadb _) m3)
  have p4 := add_cell (h.keep (a := ad.add (i * 6 + 4)) (hadb _) m4)
  have p5 := add_cell (h.keep (a := ad.add (i * 6 + 5)) (hadb _) m5)
  obtain ⟨c0, c1, c2, c3⟩ := h.cells
  rw [hA] at c3
  obtain ⟨x, hxn⟩ : ∃ x : Nat, n.x = (x : Int) := ⟨n.x.toNat, by omega⟩
  rw [hxn] at p4 hxi h1
  rw [hxn, Int.toNat_natCast] at HTX hx
  obtain ⟨_, hxi⟩ := hxi
  rw [Int.toNat_natCast] at hxi
  obtain ⟨y, hyn⟩ : ∃ y : Nat, n.y = (y : Int) := ⟨n.y.toNat, by omega⟩
  rw [hyn] at p5 hyi h1
  rw [hyn, Int.toNat_natCast] at HTX hy
  obtain ⟨_, hyi⟩ := hyi
  rw [Int.toNat_natCast] at hyi
  rw [hm] at p0 HTX h1 hx hy
  have hf : decide (4000 < t.length) = false := decide_eq_false hfull
  rw [hf] at HF
  obtain ⟨r0, r1, r2, r3, r4⟩ := (HLY.out (.cells #[.int .i64 (m : Int), .int .i64 n.i, .int .i64 n.e, .int .i64 n.g, .int .i64 (x : Int), .int .i64 (y : Int)] 65)).at_ hm1.1 hm1.2
  rw [hkind] at r0
  have hm22 := hm1.2
  have HQ0 : Hid (QP K ((w.alloc (.cells #[.int .i64 (m : Int), .int .i64 n.i, .int .i64 n.e, .int .i64 n.g, .int .i64 (x : Int), .int .i64 (y : Int)] 65)).alloc (.cells #[.int .i64 3, .string (wordB (m : Int)), .int .i64 ((levN (m : Int) : Nat) : Int), .int .i64 ((reqX (m : Int) : Nat) : Int), .int .i64 ((reqY (m : Int) : Nat) : Int)] 79)) t) := Lib.hid (h1.below ((Below.refl _ _).alloc (Nat.le_refl _) _))
  have HO0 : Hid (Oth w ((w.alloc (.cells #[.int .i64 (m : Int), .int .i64 n.i, .int .i64 n.e, .int .i64 n.g, .int .i64 (x : Int), .int .i64 (y : Int)] 65)).alloc (.cells #[.int .i64 3, .string (wordB (m : Int)), .int .i64 ((levN (m : Int) : Nat) : Int), .int .i64 ((reqX (m : Int) : Nat) : Int), .int .i64 ((reqY (m : Int) : Nat) : Int)] 79))) := Lib.hid (((Oth.refl w).alloc _).alloc _)
  have HS0 : Hid (w.heap.size + 1 + 1 = ((w.alloc (.cells #[.int .i64 (m : Int), .int .i64 n.i, .int .i64 n.e, .int .i64 n.g, .int .i64 (x : Int), .int .i64 (y : Int)] 65)).alloc (.cells #[.int .i64 3, .string (wordB (m : Int)), .int .i64 ((levN (m : Int) : Nat) : Int), .int .i64 ((reqX (m : Int) : Nat) : Int), .int .i64 ((reqY (m : Int) : Nat) : Int)] 79)).heap.size) := Lib.hid (by simp)
  have HBX : Hid (∀ W, Oth ((w.alloc (.cells #[.int .i64 (m : Int), .int .i64 n.i, .int .i64 n.e, .int .i64 n.g, .int .i64 (x : Int), .int .i64 (y : Int)] 65)).alloc (.cells #[.int .i64 3, .string (wordB (m : Int)), .int .i64 ((levN (m : Int) : Nat) : Int), .int .i64 ((reqX (m : Int) : Nat) : Int), .int .i64 ((reqY (m : Int) : Nat) : Int)] 79)) W → W.heap[w.heap.size]? = some (.cells #[.int .i64 (m : Int), .int .i64 n.i, .int .i64 n.e, .int .i64 n.g, .int .i64 (x : Int), .int .i64 (y : Int)] 65 (0, 0)) ∧ W.heap[w.heap.size + 1]? = some (.cells #[.int .i64 3, .string (wordB (m : Int)), .int .i64 ((levN (m : Int) : Nat) : Int), .int .i64 ((reqX (m : Int) : Nat) : Int), .int .i64 ((reqY (m : Int) : Nat) : Int)] 79 (0, 0))) := Lib.hid (fun W hW => by
    refine ⟨hW _ _ _ (by decide) (by decide) ?_, hW _ _ _ (by decide) (by decide) ?_⟩
    · rw [Below.heap_alloc _ _ _ (by simp)]; exact heap_alloc_new w _
    · have := heap_alloc_new (w.alloc (.cells #[.int .i64 (m : Int), .int .i64 n.i, .int .i64 n.e, .int .i64 n.g, .int .i64 (x : Int), .int .i64 (y : Int)] 65)) (.cells #[.int .i64 3, .string (wordB (m : Int)), .int .i64 ((levN (m : Int) : Nat) : Int), .int .i64 ((reqX (m : Int) : Nat) : Int), .int .i64 ((reqY (m : Int) : Nat) : Int)] 79)
      simpa using this)
  have hwz := wordB_size (m : Int)
  have z32 : (⟨#[32]⟩ : ByteArray).size = 1 := rfl
  have z91 : (⟨#[91]⟩ : ByteArray).size = 1 := rfl
  have z93 : (⟨#[93]⟩ : ByteArray).size = 1 := rfl
  have Hx := Lib.hid hx
  have Hy := Lib.hid hy
  unfold NodeRun
  clear hE hL hn ho hop m0 m1 m2 m3 m4 m5 hadb hA hb hm1 hkind hf c0 c1 c2 hm h h1 hx hxn hy hyn
  go_enter Tryz.func29, Tryz.ntmps29
  go_wp2_with fail
  refine (HF.out).mono ?_
  rintro e w1 ⟨rfl, hw⟩
  subst w1
  have HP1 := Lib.hid (Hx.out _ _ HQ0.out (by omega))
  go_wp2_with fail
  refine (HP1.out).mono ?_
  rintro e u1 ⟨rfl, t1, hq1, he1, hm1, ho1⟩
  have hl1 : t1.length ≤ 4000 + 300 * i + 3 := by omega
  have HQ1 := Lib.hid hq1
  have HE1 := Lib.hid (he1)
  clear HP1 hm1 he1
  have HO1 := Lib.hid (ho1)
  obtain ⟨b1, b2⟩ := HBX.out _ HO1.out
  have x4 := Lib.cell_of_heap b1 4
  have x5 := Lib.cell_of_heap b1 5
  have y3 := Lib.cell_of_heap b2 3
  have y4 := Lib.cell_of_heap b2 4
  have y1 := Lib.cell_of_heap b2 1
  simp only [List.getElem?_toArray, List.getElem?_cons_succ, List.getElem?_cons_zero] at x4 x5 y3 y4 y1
  clear hq1 ho1 b1 b2
  have hc2 : (catB [⟨#[32]⟩, wordB (m : Int), ⟨#[32]⟩]).length ≤ 7 := by simp only [catB_cons, catB_nil]; omega
  have HW2 := Lib.hid (qWr3 HQ1.out (⟨#[32]⟩) (wordB (m : Int)) (⟨#[32]⟩) (by omega) _ rfl)
  go_wp2_with fail
  refine (HW2.out).mono ?_
  rintro e u2 ⟨rfl, hq2, ho2⟩
  have HQ2 := Lib.hid hq2
  have HE2 := Lib.hid (HE1.out.trans (Ext.app t1 (catB [⟨#[32]⟩, wordB (m : Int), ⟨#[32]⟩])))
  have hl2 : (t1 ++ catB [⟨#[32]⟩, wordB (m : Int), ⟨#[32]⟩]).length ≤ 4000 + 300 * i + 10 := by rw [List.length_append]; omega
  generalize ht2 : (t1 ++ catB [⟨#[32]⟩, wordB (m : Int), ⟨#[32]⟩]) = t2 at *
  clear ht2 hc2 HW2
  have HO2 := Lib.hid (HO1.out.trans ho2)
  obtain ⟨b1, b2⟩ := HBX.out _ HO2.out
  have x4 := Lib.cell_of_heap b1 4
  have x5 := Lib.cell_of_heap b1 5
  have y3 := Lib.cell_of_heap b2 3
  have y4 := Lib.cell_of_heap b2 4
  have y1 := Lib.cell_of_heap b2 1
  simp only [List.getElem?_toArray, List.getElem?_cons_succ, List.getElem?_cons_zero] at x4 x5 y3 y4 y1
  clear hq2 ho2 b1 b2
  have HP3 := Lib.hid (Hy.out _ _ HQ2.out (by omega))
  go_wp2_with fail
  refine (HP3.out).mono ?_
  rintro e u3 ⟨rfl, t3, hq3, he3, hm3, ho3⟩
  have hl3 : t3.length ≤ 4000 + 300 * i + 13 := by omega
  have HQ3 := Lib.hid hq3
  have HE3 := Lib.hid (HE2.out.trans he3)
  clear HP3 hm3 he3
  have HO3 := Lib.hid (HO2.out.trans ho3)
  obtain ⟨b1, b2⟩ := HBX.out _ HO3.out
  have x4 := Lib.cell_of_heap b1 4
  have x5 := Lib.cell_of_heap b1 5
  have y3 := Lib.cell_of_heap b2 3
  have y4 := Lib.cell_of_heap b2 4
  have y1 := Lib.cell_of_heap b2 1
  simp only [List.getElem?_toArray, List.getElem?_cons_succ, List.getElem?_cons_zero] at x4 x5 y3 y4 y1
  clear hq3 ho3 b1 b2
  have HR : Hid (∃ t', QP K u3 t' ∧ Ext t (tx K.A K.F K.X K.l i) t' ∧ t'.length ≤ max t.length (4000 + 300 * (i + 1)) ∧ Oth w u3) := Lib.hid ⟨_, HQ3.out, by rw [HTX.out]; simpa only [List.append_assoc] using HE3.out, by omega, HO0.out.trans HO3.out⟩
  clear HQ1 HE1 HQ2 HE2 HQ3 HE3
  go_wp2
  first | go_end0 | (refine bodyPost_ret (results_none rfl _ _ _) rfl ?_)
  exact ⟨rfl, HR.out⟩
end Go.Proofs.YtenbhalnpiahaaaGreatDoor
/- Layer 7: a node is written (announcements). -/
namespace Go.Proofs.YtenbhalnpiahaaaGreatDoor
open Go.RowKit Go.Proofs.Ws
set_option maxRecDepth 100000 in
set_option maxHeartbeats 8000000 in
theorem node_ann {K : QK} (hE : QE K) (hL : LayW K.w0) {i : Nat} (hi : i < K.l.length) {n : Nd} (hn : K.l.getD i nd0 = n) (ho : opsL K.l) (hop : n.op = 16) (hx : OperOK K n.x.toNat (reqX n.op)) (hxi : 0 ≤ n.x ∧ n.x.toNat < i) (hy : OperOK K n.y.toNat (reqY n.op)) (hyi : 0 ≤ n.y ∧ n.y.toNat < i)
    {w : World} {t : List UInt8} (h : QP K w t) (hfull : ¬ 4000 < t.length) : NodeRun K i w t := by
  have HTX := Lib.hid (k_ann (A := K.A) (F := K.F) (X := K.X) ho hi hn hop)
  obtain ⟨m, hm⟩ : ∃ m : Nat, n.op = (m : Int) := ⟨n.op.toNat, by (try unfold MidN at hop); omega⟩
  have hm1 : 1 ≤ m ∧ m < 22 := by (try unfold MidN at hop); omega
  have hkind : kindN (m : Int) = 6 := by rw [← hm]; rw [hop]; rfl
  obtain ⟨ad, hA, hb, m0, m1, m2, m3, m4, m5⟩ := hE.ls.nd_at hi
  have HF := Lib.hid (qFull_any h)
  have hq := h.size
  have hll := hE.ll
  have h1 := (h.below ((Below.refl _ w).alloc (Nat.le_refl _) (.cells #[.int .i64 n.op, .int .i64 n.i, .int .i64 n.e, .int .i64 n.g, .int .i64 n.x, .int .i64 n.y] 65)))
  have HLY : Hid (∀ o, LayW (w.alloc o)) := Lib.hid (fun o => (hL.below h.be).below ((Below.refl _ w).alloc (Nat.le_refl _) o))
  rw [hn] at m0 m1 m2 m3 m4 m5
  have hadb : ∀ q, (ad.add q).block < K.w0.heap.size := fun q => by rw [block_of_add]; exact hb
  have p0 := h.keep (a := ad.add (i * 6)) (hadb _) m0
  have p1 := add_cell (h.keep (a := ad.add (i * 6 + 1)) (hadb _) m1)
  have p2 := add_cell (h.keep (a := ad.add (i * 6 + 2)) (hadb _) m2)
  have p3 := add_cell (h.keep (a := ad.add (i * 6 + 3)) (hadb _) m3)
  have p4 := add_cell (h.keep (a := ad.add (i * 6 + 4)) (hadb _) m4)
  have p5 := add_cell (h.keep (a := ad.add (i * 6 + 5)) (hadb _) m5)
  obtain ⟨c0, c1, c2, c3⟩ := h.cells
  rw [hA] at c3
  obtain ⟨x, hxn⟩ : ∃ x : Nat, n.x = (x : Int) := ⟨n.x.toNat, by omega⟩
  rw [hxn] at p4 hxi h1
  rw [hxn, Int.toNat_natCast] at HTX hx
  obtain ⟨_, hxi⟩ := hxi
  rw [Int.toNat_natCast] at hxi
  obtain ⟨y, hyn⟩ : ∃ y : Nat, n.y = (y : Int) := ⟨n.y.toNat, by omega⟩
  rw [hyn] at p5 hyi h1
  rw [hyn, Int.toNat_natCast] at HTX hy
  obtain ⟨_, hyi⟩ := hyi
  rw [Int.toNat_natCast] at hyi
  rw [hm] at p0 HTX h1 hx hy
  have hf : decide (4000 < t.length) = false := decide_eq_false hfull
  rw [hf] at HF
  obtain ⟨r0, r1, r2, r3, r4⟩ := (HLY.out (.cells #[.int .i64 (m : Int), .int .i64 n.i, .int .i64 n.e, .int .i64 n.g, .int .i64 (x : Int), .int .i64 (y : Int)] 65)).at_ hm1.1 hm1.2
  rw [hkind] at r0
  have hm22 := hm1.2
  have HQ0 : Hid (QP K ((w.alloc (.cells #[.int .i64 (m : Int), .int .i64 n.i, .int .i64 n.e, .int .i64 n.g, .int .i64 (x : Int), .int .i64 (y : Int)] 65)).alloc (.cells #[.int .i64 6, .string (wordB (m : Int)), .int .i64 ((levN (m : Int) : Nat) : Int), .int .i64 ((reqX (m : Int) : Nat) : Int), .int .i64 ((reqY (m : Int) : Nat) : Int)] 79)) t) := Lib.hid (h1.below ((Below.refl _ _).alloc (Nat.le_refl _) _))
  have HO0 : Hid (Oth w ((w.alloc (.cells #[.int .i64 (m : Int), .int .i64 n.i, .int .i64 n.e, .int .i64 n.g, .int .i64 (x : Int), .int .i64 (y : Int)] 65)).alloc (.cells #[.int .i64 6, .string (wordB (m : Int)), .int .i64 ((levN (m : Int) : Nat) : Int), .int .i64 ((reqX (m : Int) : Nat) : Int), .int .i64 ((reqY (m : Int) : Nat) : Int)] 79))) := Lib.hid (((Oth.refl w).alloc _).alloc _)
  have HS0 : Hid (w.heap.size + 1 + 1 = ((w.alloc (.cells #[.int .i64 (m : Int), .int .i64 n.i, .int .i64 n.e, .int .i64 n.g, .int .i64 (x : Int), .int .i64 (y : Int)] 65)).alloc (.cells #[.int .i64 6, .string (wordB (m : Int)), .int .i64 ((levN (m : Int) : Nat) : Int), .int .i64 ((reqX (m : Int) : Nat) : Int), .int .i64 ((reqY (m : Int) : Nat) : Int)] 79)).heap.size) := Lib.hid (by simp)
  have HBX : Hid (∀ W, Oth ((w.alloc (.cells #[.int .i64 (m : Int), .int .i64 n.i, .int .i64 n.e, .int .i64 n.g, .int .i64 (x : Int), .int .i64 (y : Int)] 65)).alloc (.cells #[.int .i64 6, .string (wordB (m : Int)), .int .i64 ((levN (m : Int) : Nat) : Int), .int .i64 ((reqX (m : Int) : Nat) : Int), .int .i64 ((reqY (m : Int) : Nat) : Int)] 79)) W → W.heap[w.heap.size]? = some (.cells #[.int .i64 (m : Int), .int .i64 n.i, .int .i64 n.e, .int .i64 n.g, .int .i64 (x : Int), .int .i64 (y : Int)] 65 (0, 0)) ∧ W.heap[w.heap.size + 1]? = some (.cells #[.int .i64 6, .string (wordB (m : Int)), .int .i64 ((levN (m : Int) : Nat) : Int), .int .i64 ((reqX (m : Int) : Nat) : Int), .int .i64 ((reqY (m : Int) : Nat) : Int)] 79 (0, 0))) := Lib.hid (fun W hW => by
    refine ⟨hW _ _ _ (by decide) (by decide) ?_, hW _ _ _ (by decide) (by decide) ?_⟩
    · rw [Below.heap_alloc _ _ _ (by simp)]; exact heap_alloc_new w _
    · have := heap_alloc_new (w.alloc (.cells #[.int .i64 (m : Int), .int .i64 n.i, .int .i64 n.e, .int .i64 n.g, .int .i64 (x : Int), .int .i64 (y : Int)] 65)) (.cells #[.int .i64 6, .string (wordB (m : Int)), .int .i64 ((levN (m : Int) : Nat) : Int), .int .i64 ((reqX (m : Int) : Nat) : Int), .int .i64 ((reqY (m : Int) : Nat) : Int)] 79)
      simpa using this)
  have hwz := wordB_size (m : Int)
  have z32 : (⟨#[32]⟩ : ByteArray).size = 1 := rfl
  have z91 : (⟨#[91]⟩ : ByteArray).size = 1 := rfl
  have z93 : (⟨#[93]⟩ : ByteArray).size = 1 := rfl
  have Hx := Lib.hid hx
  have Hy := Lib.hid hy
  unfold NodeRun
  clear hE hL hn ho hop m0 m1 m2 m3 m4 m5 hadb hA hb hm1 hkind hf c0 c1 c2 hm h h1 hx hxn hy hyn
  go_enter Tryz.func29, Tryz.ntmps29
  go_wp2_with fail
  refine (HF.out).mono ?_
  rintro e w1 ⟨rfl, hw⟩
  subst w1
  have hc1 : (catB [⟨#[91]⟩, wordB (m : Int)]).length ≤ 6 := by simp only [catB_cons, catB_nil]; omega
  have HW1 := Lib.hid (qWr2 HQ0.out (⟨#[91]⟩) (wordB (m : Int)) (by omega) (w.heap.size + 1 + 1) HS0.out)
  go_wp2_with fail
  refine (HW1.out).mono ?_
  rintro e u1 ⟨rfl, hq1, ho1⟩
  have HQ1 := Lib.hid hq1
  have HE1 := Lib.hid (Ext.app t (catB [⟨#[91]⟩, wordB (m : Int)]))
  have hl1 : (t ++ catB [⟨#[91]⟩, wordB (m : Int)]).length ≤ 4000 + 300 * i + 6 := by rw [List.length_append]; omega
  generalize ht1 : (t ++ catB [⟨#[91]⟩, wordB (m : Int)]) = t1 at *
  clear ht1 hc1 HW1
  have HO1 := Lib.hid (ho1)
  obtain ⟨b1, b2⟩ := HBX.out _ HO1.out
  have x4 := Lib.cell_of_heap b1 4
  have x5 := Lib.cell_of_heap b1 5
  have y3 := Lib.cell_of_heap b2 3
  have y4 := Lib.cell_of_heap b2 4
  have y1 := Lib.cell_of_heap b2 1
  simp only [List.getElem?_toArray, List.getElem?_cons_succ, List.getElem?_cons_zero] at x4 x5 y3 y4 y1
  clear hq1 ho1 b1 b2
  have HP2 := Lib.hid (Hx.out _ _ HQ1.out (by omega))
  go_wp2_with fail
  refine (HP2.out).mono ?_
  rintro e u2 ⟨rfl, t2, hq2, he2, hm2, ho2⟩
  have hl2 : t2.length ≤ 4000 + 300 * i + 9 := by omega
  have HQ2 := Lib.hid hq2
  have HE2 := Lib.hid (HE1.out.trans he2)
  clear HP2 hm2 he2
  have HO2 := Lib.hid (HO1.out.trans ho2)
  obtain ⟨b1, b2⟩ := HBX.out _ HO2.out
  have x4 := Lib.cell_of_heap b1 4
  have x5 := Lib.cell_of_heap b1 5
  have y3 := Lib.cell_of_heap b2 3
  have y4 := Lib.cell_of_heap b2 4
  have y1 := Lib.cell_of_heap b2 1
  simp only [List.getElem?_toArray, List.getElem?_cons_succ, List.getElem?_cons_zero] at x4 x5 y3 y4 y1
  clear hq2 ho2 b1 b2
  have hc3 : (catB [⟨#[93]⟩]).length ≤ 1 := by simp only [catB_cons, catB_nil]; omega
  have HW3 := Lib.hid (qWr1 HQ2.out (⟨#[93]⟩) (by omega) _ rfl)
  go_wp2_with fail
  refine (HW3.out).mono ?_
  rintro e u3 ⟨rfl, hq3, ho3⟩
  have HQ3 := Lib.hid hq3
  have HE3 := Lib.hid (HE2.out.trans (Ext.app t2 (catB [⟨#[93]⟩])))
  have hl3 : (t2 ++ catB [⟨#[93]⟩]).length ≤ 4000 + 300 * i + 10 := by rw [List.length_append]; omega
  generalize ht3 : (t2 ++ catB [⟨#[93]⟩]) = t3 at *
  clear ht3 hc3 HW3
  have HO3 := Lib.hid (HO2.out.trans ho3)
  obtain ⟨b1, b2⟩ := HBX.out _ HO3.out
  have x4 := Lib.cell_of_heap b1 4
  have x5 := Lib.cell_of_heap b1 5
  have y3 := Lib.cell_of_heap b2 3
  have y4 := Lib.cell_of_heap b2 4
  have y1 := Lib.cell_of_heap b2 1
  simp only [List.getElem?_toArray, List.getElem?_cons_succ, List.getElem?_cons_zero] at x4 x5 y3 y4 y1
  clear hq3 ho3 b1 b2
  have HP4 := Lib.hid (Hy.out _ _ HQ3.out (by omega))
  go_wp2_with fail
  refine (HP4.out).mono ?_
  rintro e u4 ⟨rfl, t4, hq4, he4, hm4, ho4⟩
  have hl4 : t4.length ≤ 4000 + 300 * i + 13 := by omega
  have HQ4 := Lib.hid hq4
  have HE4 := Lib.hid (HE3.out.trans he4)
  clear HP4 hm4 he4
  have HO4 := Lib.hid (HO3.out.trans ho4)
  obtain ⟨b1, b2⟩ := HBX.out _ HO4.out
  have x4 := Lib.cell_of_heap b1 4
  have x5 := Lib.cell_of_heap b1 5
  have y3 := Lib.cell_of_heap b2 3
  have y4 := Lib.cell_of_heap b2 4
  have y1 := Lib.cell_of_heap b2 1
  simp only [List.getElem?_toArray, List.getElem?_cons_succ, List.getElem?_cons_zero] at x4 x5 y3 y4 y1
  clear hq4 ho4 b1 b2
  have HR : Hid (∃ t', QP K u4 t' ∧ Ext t (tx K.A K.F K.X K.l i) t' ∧ t'.length ≤ max t.length (4000 + 300 * (i + 1)) ∧ Oth w u4) := Lib.hid ⟨_, HQ4.out, by rw [HTX.out]; simpa only [List.append_assoc] using HE4.out, by omega, HO0.out.trans HO4.out⟩
  clear HQ1 HE1 HQ2 HE2 HQ3 HE3 HQ4 HE4
  go_wp2
  first | go_end0 | (refine bodyPost_ret (results_none rfl _ _ _) rfl ?_)
  exact ⟨rfl, HR.out⟩
end Go.Proofs.YtenbhalnpiahaaaGreatDoor
