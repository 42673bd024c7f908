/- Layer 6: texts joined: Xm Xl Xn. -/
import Derived.Test.YtenbhalnpiahaaaGreatDoorPb
import Derived.Test.YtenbhalnpiahaaaGreatDoorPc
import Derived.Shelf.Strconv.Itoa3
import Derived.Shelf.Lay
/- Layer 7: a node is written (facts). -/
namespace Go.Proofs.YtenbhalnpiahaaaGreatDoor
open Go.RowKit Go.Proofs.Ws
set_option maxRecDepth 100000 in
set_option maxHeartbeats 8000000 in
theorem node_fact {K : QK} (hE : QE K) (hL : LayW K.w0) {i : Nat} (hi : i < K.l.length) {n : Nd} (hn : K.l.getD i nd0 = n) (ho : opsL K.l) (hop : n.op = 3)
    (hnm : ∃ k : Nat, n.i = (k : Int) ∧ k < K.F.length) {w : World} {t : List UInt8} (h : QP K w t) (hfull : ¬ 4000 < t.length) : NodeRun K i w t := by
  have HTX := Lib.hid (k_fact (A := K.A) (F := K.F) (X := K.X) ho hi hn hop)
  obtain ⟨m, hm⟩ : ∃ m : Nat, n.op = (m : Int) := ⟨n.op.toNat, by (try unfold MidN at hop); omega⟩
  have hm1 : 1 ≤ m ∧ m < 22 := by (try unfold MidN at hop); omega
  have hkind : kindN (m : Int) = 1 := by rw [← hm]; rw [hop]; rfl
  obtain ⟨ad, hA, hb, m0, m1, m2, m3, m4, m5⟩ := hE.ls.nd_at hi
  have HF := Lib.hid (qFull_any h)
  have hq := h.size
  have hll := hE.ll
  have h1 := (h.below ((Below.refl _ w).alloc (Nat.le_refl _) (.cells #[.int .i64 n.op, .int .i64 n.i, .int .i64 n.e, .int .i64 n.g, .int .i64 n.x, .int .i64 n.y] 65)))
  have HLY : Hid (∀ o, LayW (w.alloc o)) := Lib.hid (fun o => (hL.below h.be).below ((Below.refl _ w).alloc (Nat.le_refl _) o))
  rw [hn] at m0 m1 m2 m3 m4 m5
  have hadb : ∀ q, (ad.add q).block < K.w0.heap.size := fun q => by rw [block_of_add]; exact hb
  have p0 := h.keep (a := ad.add (i * 6)) (hadb _) m0
  have p1 := add_cell (h.keep (a := ad.add (i * 6 + 1)) (hadb _) m1)
  have p2 := add_cell (h.keep (a := ad.add (i * 6 + 2)) (hadb _) m2)
  have p3 := add_cell (h.keep (a := ad.add (i * 6 + 3)) (hadb _) m3)
  have p4 := add_cell (h.keep (a := ad.add (i * 6 + 4)) (hadb _) m4)
  have p5 := add_cell (h.keep (a := ad.add (i * 6 + 5)) (hadb _) m5)
  obtain ⟨c0, c1, c2, c3⟩ := h.cells
  rw [hA] at c3
  rw [hm] at p0 h1
  have hf : decide (4000 < t.length) = false := decide_eq_false hfull
  rw [hf] at HF
  obtain ⟨r0, r1, r2, r3, r4⟩ := (HLY.out (.cells #[.int .i64 (m : Int), .int .i64 n.i, .int .i64 n.e, .int .i64 n.g, .int .i64 n.x, .int .i64 n.y] 65)).at_ hm1.1 hm1.2
  rw [hkind] at r0
  have hm22 := hm1.2
  have HQ0 : Hid (QP K ((w.alloc (.cells #[.int .i64 (m : Int), .int .i64 n.i, .int .i64 n.e, .int .i64 n.g, .int .i64 n.x, .int .i64 n.y] 65)).alloc (.cells #[.int .i64 1, .string (wordB (m : Int)), .int .i64 ((levN (m : Int) : Nat) : Int), .int .i64 ((reqX (m : Int) : Nat) : Int), .int .i64 ((reqY (m : Int) : Nat) : Int)] 79)) t) := Lib.hid (h1.below ((Below.refl _ _).alloc (Nat.le_refl _) _))
  have HO0 : Hid (Oth w ((w.alloc (.cells #[.int .i64 (m : Int), .int .i64 n.i, .int .i64 n.e, .int .i64 n.g, .int .i64 n.x, .int .i64 n.y] 65)).alloc (.cells #[.int .i64 1, .string (wordB (m : Int)), .int .i64 ((levN (m : Int) : Nat) : Int), .int .i64 ((reqX (m : Int) : Nat) : Int), .int .i64 ((reqY (m : Int) : Nat) : Int)] 79))) := Lib.hid (((Oth.refl w).alloc _).alloc _)
  have HS0 : Hid (w.heap.size + 1 + 1 = ((w.alloc (.cells #[.int .i64 (m : Int), .int .i64 n.i, .int .i64 n.e, .int .i64 n.g, .int .i64 n.x, .int .i64 n.y] 65)).alloc (.cells #[.int .i64 1, .string (wordB (m : Int)), .int .i64 ((levN (m : Int) : Nat) : Int), .int .i64 ((reqX (m : Int) : Nat) : Int), .int .i64 ((reqY (m : Int) : Nat) : Int)] 79)).heap.size) := Lib.hid (by simp)
  have HBX : Hid (∀ W, Oth ((w.alloc (.cells #[.int .i64 (m : Int), .int .i64 n.i, .int .i64 n.e, .int .i64 n.g, .int .i64 n.x, .int .i64 n.y] 65)).alloc (.cells #[.int .i64 1, .string (wordB (m : Int)), .int .i64 ((levN (m : Int) : Nat) : Int), .int .i64 ((reqX (m : Int) : Nat) : Int), .int .i64 ((reqY (m : Int) : Nat) : Int)] 79)) W → W.heap[w.heap.size]? = some (.cells #[.int .i64 (m : Int), .int .i64 n.i, .int .i64 n.e, .int .i64 n.g, .int .i64 n.x, .int .i64 n.y] 65 (0, 0)) ∧ W.heap[w.heap.size + 1]? = some (.cells #[.int .i64 1, .string (wordB (m : Int)), .int .i64 ((levN (m : Int) : Nat) : Int), .int .i64 ((reqX (m : Int) : Nat) : Int), .int .i64 ((reqY (m : Int) : Nat) : Int)] 79 (0, 0))) := Lib.hid (fun W hW => by
    refine ⟨hW _ _ _ (by decide) (by decide) ?_, hW _ _ _ (by decide) (by decide) ?_⟩
    · rw [Below.heap_alloc _ _ _ (by simp)]; exact heap_alloc_new w _
    · have := heap_alloc_new (w.alloc (.cells #[.int .i64 (m : Int), .int .i64 n.i, .int .i64 n.e, .int .i64 n.g, .int .i64 n.x, .int .i64 n.y] 65)) (.cells #[.int .i64 1, .string (wordB (m : Int)), .int .i64 ((levN (m : Int) : Nat) : Int), .int .i64 ((reqX (m : Int) : Nat) : Int), .int .i64 ((reqY (m : Int) : Nat) : Int)] 79)
      simpa using this)
  have hwz := wordB_size (m : Int)
  have z32 : (⟨#[32]⟩ : ByteArray).size = 1 := rfl
  have z91 : (⟨#[91]⟩ : ByteArray).size = 1 := rfl
  have z93 : (⟨#[93]⟩ : ByteArray).size = 1 := rfl
  obtain ⟨_, _, _, _, _, _, _, _, _, esv, s0, s1, s2⟩ := hE.sig
  obtain ⟨k, hk, hkL⟩ := hnm
  injection esv with esv
  have esv := congrArg Array.toList esv
  simp only [List.cons.injEq, Value.slice.injEq, and_true] at esv
  obtain ⟨⟨rfl, rfl, rfl⟩, ⟨rfl, rfl, rfl⟩, ⟨rfl, rfl, rfl⟩⟩ := esv
  have hln := s1.1.str_len
  have hkn : k < K.n1 := by omega
  obtain ⟨ad2, hA2, hb2, hc2⟩ := s1.1.str_at hkn
  have hsz8 : (K.F.getD k ByteArray.empty).size ≤ 8 := sig_size hE.ok _ (by rw [List.getD_eq_getElem?_getD, List.getElem?_eq_getElem (by omega)]; simp)
  rw [hk, Int.toNat_natCast] at HTX
  rw [hk] at p1 h1
  generalize K.F.getD k ByteArray.empty = z at *
  rw [hk] at HQ0 HO0 HS0 HBX r0 r1 r2 r3 r4
  have hlo := h.be.size
  have HS : Hid (∀ W s, Oth ((w.alloc (.cells #[.int .i64 (m : Int), .int .i64 (k : Int), .int .i64 n.e, .int .i64 n.g, .int .i64 n.x, .int .i64 n.y] 65)).alloc (.cells #[.int .i64 1, .string (wordB (m : Int)), .int .i64 ((levN (m : Int) : Nat) : Int), .int .i64 ((reqX (m : Int) : Nat) : Int), .int .i64 ((reqY (m : Int) : Nat) : Int)] 79)) W → QP K W s → (W.cell? ⟨w.heap.size, 1, none⟩ = some (.int .i64 (k : Int)) ∧ W.cell? ⟨K.w0.heap.size, 1, none⟩ = some (.slice (some ad2) K.n1 K.c1) ∧ W.cell? (ad2.add k) = some (.string z)) ∧ Hid (Oth ((w.alloc (.cells #[.int .i64 (m : Int), .int .i64 (k : Int), .int .i64 n.e, .int .i64 n.g, .int .i64 n.x, .int .i64 n.y] 65)).alloc (.cells #[.int .i64 1, .string (wordB (m : Int)), .int .i64 ((levN (m : Int) : Nat) : Int), .int .i64 ((reqX (m : Int) : Nat) : Int), .int .i64 ((reqY (m : Int) : Nat) : Int)] 79)) W)) := Lib.hid (fun W s hW hQ => by
    obtain ⟨b1, b2⟩ := HBX.out W hW
    obtain ⟨g0, g1, g2, g3⟩ := hQ.cells
    rw [hA2] at g1
    exact ⟨⟨Lib.cell_of_heap b1 1, g1, hQ.keep (by rw [block_of_add]; exact hb2) hc2⟩, Lib.hid hW⟩)
  have hcat : (catB [z]).length ≤ 8 := by simp only [catB_cons, catB_nil]; omega
  have HWR : Hid (Calls Tryz.prog 55 #[.pointer (some ⟨K.w0.heap.size, 0, none⟩), .slice (some ⟨w.heap.size + 1 + 1, 0, none⟩) 1 1] ((((w.alloc (.cells #[.int .i64 (m : Int), .int .i64 (k : Int), .int .i64 n.e, .int .i64 n.g, .int .i64 n.x, .int .i64 n.y] 65)).alloc (.cells #[.int .i64 1, .string (wordB (m : Int)), .int .i64 ((levN (m : Int) : Nat) : Int), .int .i64 ((reqX (m : Int) : Nat) : Int), .int .i64 ((reqY (m : Int) : Nat) : Int)] 79))).drew.alloc (.cells #[.string z] 9)) fun e W' => e = .returned (.tuple #[]) ∧ Hid (QP K W' (t ++ catB [z])) ∧ W'.cell? ⟨w.heap.size, 1, none⟩ = some (.int .i64 (k : Int)) ∧ W'.cell? ⟨K.w0.heap.size, 1, none⟩ = some (.slice (some ad2) K.n1 K.c1) ∧ W'.cell? (ad2.add k) = some (.string z) ∧ Hid (Oth ((w.alloc (.cells #[.int .i64 (m : Int), .int .i64 (k : Int), .int .i64 n.e, .int .i64 n.g, .int .i64 n.x, .int .i64 n.y] 65)).alloc (.cells #[.int .i64 1, .string (wordB (m : Int)), .int .i64 ((levN (m : Int) : Nat) : Int), .int .i64 ((reqX (m : Int) : Nat) : Int), .int .i64 ((reqY (m : Int) : Nat) : Int)] 79)) W')) := Lib.hid (by
    refine (qWr1 (HQ0.out.below (Below.refl _ _).drew) (z) (by omega) _ HS0.out).mono ?_
    rintro e w' ⟨he, hq, ho⟩
    obtain ⟨⟨g0, g1, g2⟩, g7⟩ := HS.out w' _ (((Oth.refl _).below (Below.refl _ _).drew).trans ho) hq
    exact ⟨he, Lib.hid hq, g0, g1, g2, g7⟩)
  obtain ⟨⟨j0, j1, j2⟩, j7⟩ := HS.out (((w.alloc (.cells #[.int .i64 (m : Int), .int .i64 (k : Int), .int .i64 n.e, .int .i64 n.g, .int .i64 n.x, .int .i64 n.y] 65)).alloc (.cells #[.int .i64 1, .string (wordB (m : Int)), .int .i64 ((levN (m : Int) : Nat) : Int), .int .i64 ((reqX (m : Int) : Nat) : Int), .int .i64 ((reqY (m : Int) : Nat) : Int)] 79))).drew _ ((Oth.refl _).below (Below.refl _ _).drew) (HQ0.out.below (Below.refl _ _).drew)
  obtain ⟨⟨i0, i1, i2⟩, i7⟩ := HS.out (((w.alloc (.cells #[.int .i64 (m : Int), .int .i64 (k : Int), .int .i64 n.e, .int .i64 n.g, .int .i64 n.x, .int .i64 n.y] 65)).alloc (.cells #[.int .i64 1, .string (wordB (m : Int)), .int .i64 ((levN (m : Int) : Nat) : Int), .int .i64 ((reqX (m : Int) : Nat) : Int), .int .i64 ((reqY (m : Int) : Nat) : Int)] 79))) _ (Oth.refl _) HQ0.out
  have hnb : (ad2.add k).block < w.heap.size := by rw [block_of_add]; omega
  unfold NodeRun
  clear hE hL hn ho hop m0 m1 m2 m3 m4 m5 hadb hA hb hm1 hkind hf c0 c1 c2 hm h h1 hk hkL hln hA2 hb2 hc2 s0 s1 s2 hlo HS
  go_enter Tryz.func29, Tryz.ntmps29
  go_wp2_with fail
  refine (HF.out).mono ?_
  rintro e w1 ⟨rfl, hw⟩
  subst w1
  go_wp2_with fail
  go_region_held3 (fun W => (W.cell? ⟨w.heap.size, 1, none⟩ = some (.int .i64 (k : Int)) ∧ W.cell? ⟨K.w0.heap.size, 1, none⟩ = some (.slice (some ad2) K.n1 K.c1) ∧ W.cell? (ad2.add k) = some (.string z) ∧ Hid (Oth ((w.alloc (.cells #[.int .i64 (m : Int), .int .i64 (k : Int), .int .i64 n.e, .int .i64 n.g, .int .i64 n.x, .int .i64 n.y] 65)).alloc (.cells #[.int .i64 1, .string (wordB (m : Int)), .int .i64 ((levN (m : Int) : Nat) : Int), .int .i64 ((reqX (m : Int) : Nat) : Int), .int .i64 ((reqY (m : Int) : Nat) : Int)] 79)) W))) (first | assumption | (refine ⟨?_, ?_, ?_, ?_⟩ <;> first | assumption | exact Oth.hid_alloc (by assumption) _ | go_keep) | go_keep)
    (first
      | (go_at_call 55; refine (HWR.out).mono ?_; rintro e u1 ⟨rfl, HQ1, q0, q1, q2, HO1⟩))
  have hl1 : (t ++ catB [z]).length ≤ 4000 + 300 * i + 8 := by rw [List.length_append]; omega
  have HE1 := Lib.hid (Ext.app t (catB [z]))
  obtain ⟨b1, b2⟩ := HBX.out _ HO1.out
  have x4 := Lib.cell_of_heap b1 4
  have x5 := Lib.cell_of_heap b1 5
  have y3 := Lib.cell_of_heap b2 3
  have y4 := Lib.cell_of_heap b2 4
  simp only [List.getElem?_toArray, List.getElem?_cons_succ, List.getElem?_cons_zero] at x4 x5 y3 y4
  generalize ht1 : (t ++ catB [z]) = t1 at *
  clear ht1 b1 b2 HWR hcat
  have HR : Hid (∃ t', QP K u1 t' ∧ Ext t (tx K.A K.F K.X K.l i) t' ∧ t'.length ≤ max t.length (4000 + 300 * (i + 1)) ∧ Oth w u1) := Lib.hid ⟨_, HQ1.out, by rw [HTX.out]; simpa only [List.append_assoc] using HE1.out, by omega, HO0.out.trans HO1.out⟩
  clear HQ1 HE1
  go_wp2
  first | go_end0 | (refine bodyPost_ret (results_none rfl _ _ _) rfl ?_)
  exact ⟨rfl, HR.out⟩
end Go.Proofs.YtenbhalnpiahaaaGreatDoor
/- Layer 7: strconv.Itoa of a digit, off the shelf. -/
namespace Go.Proofs
open Go.Shelf
shelf_lay Lays.n171 Nm 171 at Tryz as Tryz.laysItoa
end Go.Proofs
namespace Go.Proofs.YtenbhalnpiahaaaGreatDoor
open Go.RowKit Go.Proofs.Ws
theorem dig_eq : ∀ e : Fin 8, (⟨(Lib.decDigits e.1).toArray⟩ : ByteArray) = digW e.1 := by decide +kernel
theorem qItoa_any (e : Nat) (he : e < 8) (w : World) : Calls Tryz.prog 59 #[.int .i64 (e : Int)] w fun x w' => x = .returned (.string (digW e)) ∧ w' = w := by
  have h := Any.strconv_Itoa_small Tryz.laysItoa e (by omega) w
  rw [show (⟨(Lib.decDigits e).toArray⟩ : ByteArray) = digW e from dig_eq ⟨e, he⟩] at h
  exact h
end Go.Proofs.YtenbhalnpiahaaaGreatDoor
/- Layer 7: a node is written (events). -/
namespace Go.Proofs.YtenbhalnpiahaaaGreatDoor
open Go.RowKit Go.Proofs.Ws
set_option maxRecDepth 100000 in
set_option maxHeartbeats 8000000 in
theorem node_event {K : QK} (hE : QE K) (hL : LayW K.w0) {i : Nat} (hi : i < K.l.length) {n : Nd} (hn : K.l.getD i nd0 = n) (ho : opsL K.l) (hop : n.op = 17) (hx : OperOK K n.x.toNat (reqX n.op)) (hxi : 0 ≤ n.x ∧ n.x.toNat < i)
    (hnm : ∃ k : Nat, n.i = (k : Int) ∧ k < K.X.length) (hev : ∃ e : Nat, n.e = (e : Int) ∧ e < 8) {w : World} {t : List UInt8} (h : QP K w t) (hfull : ¬ 4000 < t.length) : NodeRun K i w t := by
  have HTX := Lib.hid (k_event (A := K.A) (F := K.F) (X := K.X) ho hi hn hop)
  obtain ⟨m, hm⟩ : ∃ m : Nat, n.op = (m : Int) := ⟨n.op.toNat, by (try unfold MidN at hop); omega⟩
  have hm1 : 1 ≤ m ∧ m < 22 := by (try unfold MidN at hop); omega
  have hkind : kindN (m : Int) = 7 := by rw [← hm]; rw [hop]; rfl
  obtain ⟨ad, hA, hb, m0, m1, m2, m3, m4, m5⟩ := hE.ls.nd_at hi
  have HF := Lib.hid (qFull_any h)
  have hq := h.size
  have hll := hE.ll
  have h1 := (h.below ((Below.refl _ w).alloc (Nat.le_refl _) (.cells #[.int .i64 n.op, .int .i64 n.i, .int .i64 n.e, .int .i64 n.g, .int .i64 n.x, .int .i64 n.y] 65)))
  have HLY : Hid (∀ o, LayW (w.alloc o)) := Lib.hid (fun o => (hL.below h.be).below ((Below.refl _ w).alloc (Nat.le_refl _) o))
  rw [hn] at m0 m1 m2 m3 m4 m5
  have hadb : ∀ q, (ad.add q).block < K.w0.heap.size := fun q => by rw [block_of_add]; exact hb
  have p0 := h.keep (a := ad.add (i * 6)) (hadb _) m0
  have p1 := add_cell (h.keep (a := ad.add (i * 6 + 1)) (hadb _) m1)
  have p2 := add_cell (h.keep (a := ad.add (i * 6 + 2)) (hadb _) m2)
  have p3 := add_cell (h.keep (a := ad.add (i * 6 + 3)) (hadb _) m3)
  have p4 := add_cell (h.keep (a := ad.add (i * 6 + 4)) (hadb _) m4)
  have p5 := add_cell (h.keep (a := ad.add (i * 6 + 5)) (hadb _) m5)
  obtain ⟨c0, c1, c2, c3⟩ := h.cells
  rw [hA] at c3
  obtain ⟨x, hxn⟩ : ∃ x : Nat, n.x = (x : Int) := ⟨n.x.toNat, by omega⟩
  rw [hxn] at p4 hxi h1
  rw [hxn, Int.toNat_natCast] at HTX hx
  obtain ⟨_, hxi⟩ := hxi
  rw [Int.toNat_natCast] at hxi
  rw [hm] at p0 HTX h1 hx
  have hf : decide (4000 < t.length) = false := decide_eq_false hfull
  rw [hf] at HF
  obtain ⟨r0, r1, r2, r3, r4⟩ := (HLY.out (.cells #[.int .i64 (m : Int), .int .i64 n.i, .int .i64 n.e, .int .i64 n.g, .int .i64 (x : Int), .int .i64 n.y] 65)).at_ hm1.1 hm1.2
  rw [hkind] at r0
  have hm22 := hm1.2
  have HQ0 : Hid (QP K ((w.alloc (.cells #[.int .i64 (m : Int), .int .i64 n.i, .int .i64 n.e, .int .i64 n.g, .int .i64 (x : Int), .int .i64 n.y] 65)).alloc (.cells #[.int .i64 7, .string (wordB (m : Int)), .int .i64 ((levN (m : Int) : Nat) : Int), .int .i64 ((reqX (m : Int) : Nat) : Int), .int .i64 ((reqY (m : Int) : Nat) : Int)] 79)) t) := Lib.hid (h1.below ((Below.refl _ _).alloc (Nat.le_refl _) _))
  have HO0 : Hid (Oth w ((w.alloc (.cells #[.int .i64 (m : Int), .int .i64 n.i, .int .i64 n.e, .int .i64 n.g, .int .i64 (x : Int), .int .i64 n.y] 65)).alloc (.cells #[.int .i64 7, .string (wordB (m : Int)), .int .i64 ((levN (m : Int) : Nat) : Int), .int .i64 ((reqX (m : Int) : Nat) : Int), .int .i64 ((reqY (m : Int) : Nat) : Int)] 79))) := Lib.hid (((Oth.refl w).alloc _).alloc _)
  have HS0 : Hid (w.heap.size + 1 + 1 = ((w.alloc (.cells #[.int .i64 (m : Int), .int .i64 n.i, .int .i64 n.e, .int .i64 n.g, .int .i64 (x : Int), .int .i64 n.y] 65)).alloc (.cells #[.int .i64 7, .string (wordB (m : Int)), .int .i64 ((levN (m : Int) : Nat) : Int), .int .i64 ((reqX (m : Int) : Nat) : Int), .int .i64 ((reqY (m : Int) : Nat) : Int)] 79)).heap.size) := Lib.hid (by simp)
  have HBX : Hid (∀ W, Oth ((w.alloc (.cells #[.int .i64 (m : Int), .int .i64 n.i, .int .i64 n.e, .int .i64 n.g, .int .i64 (x : Int), .int .i64 n.y] 65)).alloc (.cells #[.int .i64 7, .string (wordB (m : Int)), .int .i64 ((levN (m : Int) : Nat) : Int), .int .i64 ((reqX (m : Int) : Nat) : Int), .int .i64 ((reqY (m : Int) : Nat) : Int)] 79)) W → W.heap[w.heap.size]? = some (.cells #[.int .i64 (m : Int), .int .i64 n.i, .int .i64 n.e, .int .i64 n.g, .int .i64 (x : Int), .int .i64 n.y] 65 (0, 0)) ∧ W.heap[w.heap.size + 1]? = some (.cells #[.int .i64 7, .string (wordB (m : Int)), .int .i64 ((levN (m : Int) : Nat) : Int), .int .i64 ((reqX (m : Int) : Nat) : Int), .int .i64 ((reqY (m : Int) : Nat) : Int)] 79 (0, 0))) := Lib.hid (fun W hW => by
    refine ⟨hW _ _ _ (by decide) (by decide) ?_, hW _ _ _ (by decide) (by decide) ?_⟩
    · rw [Below.heap_alloc _ _ _ (by simp)]; exact heap_alloc_new w _
    · have := heap_alloc_new (w.alloc (.cells #[.int .i64 (m : Int), .int .i64 n.i, .int .i64 n.e, .int .i64 n.g, .int .i64 (x : Int), .int .i64 n.y] 65)) (.cells #[.int .i64 7, .string (wordB (m : Int)), .int .i64 ((levN (m : Int) : Nat) : Int), .int .i64 ((reqX (m : Int) : Nat) : Int), .int .i64 ((reqY (m : Int) : Nat) : Int)] 79)
      simpa using this)
  have hwz := wordB_size (m : Int)
  have z32 : (⟨#[32]⟩ : ByteArray).size = 1 := rfl
  have z91 : (⟨#[91]⟩ : ByteArray).size = 1 := rfl
  have z93 : (⟨#[93]⟩ : ByteArray).size = 1 := rfl
  have Hx := Lib.hid hx
  obtain ⟨_, _, _, _, _, _, _, _, _, esv, s0, s1, s2⟩ := hE.sig
  obtain ⟨k, hk, hkL⟩ := hnm
  injection esv with esv
  have esv := congrArg Array.toList esv
  simp only [List.cons.injEq, Value.slice.injEq, and_true] at esv
  obtain ⟨⟨rfl, rfl, rfl⟩, ⟨rfl, rfl, rfl⟩, ⟨rfl, rfl, rfl⟩⟩ := esv
  have hln := s2.1.str_len
  have hkn : k < K.n2 := by omega
  obtain ⟨ad2, hA2, hb2, hc2⟩ := s2.1.str_at hkn
  have hsz8 : (K.X.getD k ByteArray.empty).size ≤ 8 := sig_size hE.ok _ (by rw [List.getD_eq_getElem?_getD, List.getElem?_eq_getElem (by omega)]; simp)
  rw [hk, Int.toNat_natCast] at HTX
  rw [hk] at p1 h1
  generalize K.X.getD k ByteArray.empty = z at *
  obtain ⟨en_, hen, he8⟩ := hev
  rw [hen, Int.toNat_natCast] at HTX
  rw [hen] at p2 h1
  have hdz : (digW en_).size = 1 := rfl
  have HIT := Lib.hid (fun W => qItoa_any en_ he8 W)
  generalize digW en_ = dg at *
  rw [hk] at HQ0 HO0 HS0 HBX r0 r1 r2 r3 r4
  rw [hen] at HQ0 HO0 HS0 HBX r0 r1 r2 r3 r4
  have hlo := h.be.size
  have HS : Hid (∀ W s, Oth ((w.alloc (.cells #[.int .i64 (m : Int), .int .i64 (k : Int), .int .i64 (en_ : Int), .int .i64 n.g, .int .i64 (x : Int), .int .i64 n.y] 65)).alloc (.cells #[.int .i64 7, .string (wordB (m : Int)), .int .i64 ((levN (m : Int) : Nat) : Int), .int .i64 ((reqX (m : Int) : Nat) : Int), .int .i64 ((reqY (m : Int) : Nat) : Int)] 79)) W → QP K W s → (W.cell? ⟨w.heap.size, 1, none⟩ = some (.int .i64 (k : Int)) ∧ W.cell? ⟨w.heap.size, 2, none⟩ = some (.int .i64 (en_ : Int)) ∧ W.cell? ⟨(w.heap.size + 1), 1, none⟩ = some (.string (wordB (m : Int))) ∧ W.cell? ⟨K.w0.heap.size, 2, none⟩ = some (.slice (some ad2) K.n2 K.c2) ∧ W.cell? (ad2.add k) = some (.string z)) ∧ Hid (Oth ((w.alloc (.cells #[.int .i64 (m : Int), .int .i64 (k : Int), .int .i64 (en_ : Int), .int .i64 n.g, .int .i64 (x : Int), .int .i64 n.y] 65)).alloc (.cells #[.int .i64 7, .string (wordB (m : Int)), .int .i64 ((levN (m : Int) : Nat) : Int), .int .i64 ((reqX (m : Int) : Nat) : Int), .int .i64 ((reqY (m : Int) : Nat) : Int)] 79)) W)) := Lib.hid (fun W s hW hQ => by
    obtain ⟨b1, b2⟩ := HBX.out W hW
    obtain ⟨g0, g1, g2, g3⟩ := hQ.cells
    rw [hA2] at g2
    exact ⟨⟨Lib.cell_of_heap b1 1, Lib.cell_of_heap b1 2, Lib.cell_of_heap b2 1, g2, hQ.keep (by rw [block_of_add]; exact hb2) hc2⟩, Lib.hid hW⟩)
  have hcat : (catB [⟨#[91]⟩, z, wordB (m : Int), dg, ⟨#[93]⟩]).length ≤ 20 := by simp only [catB_cons, catB_nil]; omega
  have HWR : Hid (Calls Tryz.prog 55 #[.pointer (some ⟨K.w0.heap.size, 0, none⟩), .slice (some ⟨w.heap.size + 1 + 1, 0, none⟩) 5 5] ((((w.alloc (.cells #[.int .i64 (m : Int), .int .i64 (k : Int), .int .i64 (en_ : Int), .int .i64 n.g, .int .i64 (x : Int), .int .i64 n.y] 65)).alloc (.cells #[.int .i64 7, .string (wordB (m : Int)), .int .i64 ((levN (m : Int) : Nat) : Int), .int .i64 ((reqX (m : Int) : Nat) : Int), .int .i64 ((reqY (m : Int) : Nat) : Int)] 79))).drew.alloc (.cells #[.string ⟨#[91]⟩, .string z, .string (wordB (m : Int)), .string dg, .string ⟨#[93]⟩] 9)) fun e W' => e = .returned (.tuple #[]) ∧ Hid (QP K W' (t ++ catB [⟨#[91]⟩, z, wordB (m : Int), dg, ⟨#[93]⟩])) ∧ W'.cell? ⟨w.heap.size, 1, none⟩ = some (.int .i64 (k : Int)) ∧ W'.cell? ⟨w.heap.size, 2, none⟩ = some (.int .i64 (en_ : Int)) ∧ W'.cell? ⟨(w.heap.size + 1), 1, none⟩ = some (.string (wordB (m : Int))) ∧ W'.cell? ⟨K.w0.heap.size, 2, none⟩ = some (.slice (some ad2) K.n2 K.c2) ∧ W'.cell? (ad2.add k) = some (.string z) ∧ Hid (Oth ((w.alloc (.cells #[.int .i64 (m : Int), .int .i64 (k : Int), .int .i64 (en_ : Int), .int .i64 n.g, .int .i64 (x : Int), .int .i64 n.y] 65)).alloc (.cells #[.int .i64 7, .string (wordB (m : Int)), .int .i64 ((levN (m : Int) : Nat) : Int), .int .i64 ((reqX (m : Int) : Nat) : Int), .int .i64 ((reqY (m : Int) : Nat) : Int)] 79)) W')) := Lib.hid (by
    refine (qWr5 (HQ0.out.below (Below.refl _ _).drew) (⟨#[91]⟩) (z) (wordB (m : Int)) (dg) (⟨#[93]⟩) (by omega) _ HS0.out).mono ?_
    rintro e w' ⟨he, hq, ho⟩
    obtain ⟨⟨g0, g1, g2, g3, g4⟩, g7⟩ := HS.out w' _ (((Oth.refl _).below (Below.refl _ _).drew).trans ho) hq
    exact ⟨he, Lib.hid hq, g0, g1, g2, g3, g4, g7⟩)
  obtain ⟨⟨j0, j1, j2, j3, j4⟩, j7⟩ := HS.out (((w.alloc (.cells #[.int .i64 (m : Int), .int .i64 (k : Int), .int .i64 (en_ : Int), .int .i64 n.g, .int .i64 (x : Int), .int .i64 n.y] 65)).alloc (.cells #[.int .i64 7, .string (wordB (m : Int)), .int .i64 ((levN (m : Int) : Nat) : Int), .int .i64 ((reqX (m : Int) : Nat) : Int), .int .i64 ((reqY (m : Int) : Nat) : Int)] 79))).drew _ ((Oth.refl _).below (Below.refl _ _).drew) (HQ0.out.below (Below.refl _ _).drew)
  obtain ⟨⟨i0, i1, i2, i3, i4⟩, i7⟩ := HS.out (((w.alloc (.cells #[.int .i64 (m : Int), .int .i64 (k : Int), .int .i64 (en_ : Int), .int .i64 n.g, .int .i64 (x : Int), .int .i64 n.y] 65)).alloc (.cells #[.int .i64 7, .string (wordB (m : Int)), .int .i64 ((levN (m : Int) : Nat) : Int), .int .i64 ((reqX (m : Int) : Nat) : Int), .int .i64 ((reqY (m : Int) : Nat) : Int)] 79))) _ (Oth.refl _) HQ0.out
  have hnb : (ad2.add k).block < w.heap.size := by rw [block_of_add]; omega
  unfold NodeRun
  clear hE hL hn ho hop m0 m1 m2 m3 m4 m5 hadb hA hb hm1 hkind hf c0 c1 c2 hm h h1 hk hkL hln hA2 hb2 hc2 s0 s1 s2 hlo HS hx hxn hen he8 hdz
  go_enter Tryz.func29, Tryz.ntmps29
  go_wp2_with fail
  refine (HF.out).mono ?_
  rintro e w1 ⟨rfl, hw⟩
  subst w1
  go_wp2_with fail
  go_region_held3 (fun W => (W.cell? ⟨w.heap.size, 1, none⟩ = some (.int .i64 (k : Int)) ∧ W.cell? ⟨w.heap.size, 2, none⟩ = some (.int .i64 (en_ : Int)) ∧ W.cell? ⟨(w.heap.size + 1), 1, none⟩ = some (.string (wordB (m : Int))) ∧ W.cell? ⟨K.w0.heap.size, 2, none⟩ = some (.slice (some ad2) K.n2 K.c2) ∧ W.cell? (ad2.add k) = some (.string z) ∧ Hid (Oth ((w.alloc (.cells #[.int .i64 (m : Int), .int .i64 (k : Int), .int .i64 (en_ : Int), .int .i64 n.g, .int .i64 (x : Int), .int .i64 n.y] 65)).alloc (.cells #[.int .i64 7, .string (wordB (m : Int)), .int .i64 ((levN (m : Int) : Nat) : Int), .int .i64 ((reqX (m : Int) : Nat) : Int), .int .i64 ((reqY (m : Int) : Nat) : Int)] 79)) W))) (first | assumption | (refine ⟨?_, ?_, ?_, ?_, ?_, ?_⟩ <;> first | assumption | exact Oth.hid_alloc (by assumption) _ | go_keep) | go_keep)
    (first
      | (go_at_call 59; refine (HIT.out _).mono ?_; rintro e Wb ⟨rfl, hWb⟩; subst hWb)
      | (go_at_call 55; refine (HWR.out).mono ?_; rintro e u1 ⟨rfl, HQ1, q0, q1, q2, q3, q4, HO1⟩))
  have hl1 : (t ++ catB [⟨#[91]⟩, z, wordB (m : Int), dg, ⟨#[93]⟩]).length ≤ 4000 + 300 * i + 20 := by rw [List.length_append]; omega
  have HE1 := Lib.hid (Ext.app t (catB [⟨#[91]⟩, z, wordB (m : Int), dg, ⟨#[93]⟩]))
  obtain ⟨b1, b2⟩ := HBX.out _ HO1.out
  have x4 := Lib.cell_of_heap b1 4
  have x5 := Lib.cell_of_heap b1 5
  have y3 := Lib.cell_of_heap b2 3
  have y4 := Lib.cell_of_heap b2 4
  simp only [List.getElem?_toArray, List.getElem?_cons_succ, List.getElem?_cons_zero] at x4 x5 y3 y4
  generalize ht1 : (t ++ catB [⟨#[91]⟩, z, wordB (m : Int), dg, ⟨#[93]⟩]) = t1 at *
  clear ht1 b1 b2 HWR hcat
  have HP2 := Lib.hid (Hx.out _ _ HQ1.out (by omega))
  go_wp2_with fail
  refine (HP2.out).mono ?_
  rintro e u2 ⟨rfl, t2, hq2, he2, hm2, ho2⟩
  have hl2 : t2.length ≤ 4000 + 300 * i + 23 := by omega
  have HQ2 := Lib.hid hq2
  have HE2 := Lib.hid (HE1.out.trans he2)
  clear HP2 hm2 he2
  have HO2 := Lib.hid (HO1.out.trans ho2)
  obtain ⟨b1, b2⟩ := HBX.out _ HO2.out
  have x4 := Lib.cell_of_heap b1 4
  have x5 := Lib.cell_of_heap b1 5
  have y3 := Lib.cell_of_heap b2 3
  have y4 := Lib.cell_of_heap b2 4
  have y1 := Lib.cell_of_heap b2 1
  simp only [List.getElem?_toArray, List.getElem?_cons_succ, List.getElem?_cons_zero] at x4 x5 y3 y4 y1
  clear hq2 ho2 b1 b2
  have HR : Hid (∃ t', QP K u2 t' ∧ Ext t (tx K.A K.F K.X K.l i) t' ∧ t'.length ≤ max t.length (4000 + 300 * (i + 1)) ∧ Oth w u2) := Lib.hid ⟨_, HQ2.out, by rw [HTX.out]; simpa only [List.append_assoc] using HE2.out, by omega, HO0.out.trans HO2.out⟩
  clear HQ1 HE1 HQ2 HE2
  go_wp2
  first | go_end0 | (refine bodyPost_ret (results_none rfl _ _ _) rfl ?_)
  exact ⟨rfl, HR.out⟩
end Go.Proofs.YtenbhalnpiahaaaGreatDoor
