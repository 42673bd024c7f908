/- Layer 7: a node is written (operators of agents with a condition). -/
import Derived.Test.YtenbhalnpiahaaaGreatDoorPc
namespace Go.Proofs.YtenbhalnpiahaaaGreatDoor
open Go.RowKit Go.Proofs.Ws
set_option maxRecDepth 100000 in
set_option maxHeartbeats 8000000 in
theorem node_if {K : QK} (hE : QE K) (hL : LayW K.w0) {i : Nat} (hi : i < K.l.length) {n : Nd} (hn : K.l.getD i nd0 = n) (ho : opsL K.l) (hop : n.op = 13 ∨ n.op = 14) (hx : CondOK K n.x.toNat) (hxi : 0 ≤ n.x ∧ n.x.toNat < i) (hy : OperOK K n.y.toNat (reqY n.op)) (hyi : 0 ≤ n.y ∧ n.y.toNat < i)
    (hokE : okE ⟨K.A, K.F, K.X, []⟩ n) {w : World} {t : List UInt8} (h : QP K w t) (hfull : ¬ 4000 < t.length) : NodeRun K i w t := by
  have HTX : Hid (∀ s : ByteArray, s.data.toList = agB K.A n → _) := Lib.hid (fun s hs => k_if (A := K.A) (F := K.F) (X := K.X) ho hi hn hop hs)
  obtain ⟨m, hm⟩ : ∃ m : Nat, n.op = (m : Int) := ⟨n.op.toNat, by (try unfold MidN at hop); omega⟩
  have hm1 : 1 ≤ m ∧ m < 22 := by (try unfold MidN at hop); omega
  have hkind : kindN (m : Int) = 5 := by rw [← hm]; rcases hop with h9 | h9 <;> rw [h9] <;> rfl
  obtain ⟨ad, hA, hb, m0, m1, m2, m3, m4, m5⟩ := hE.ls.nd_at hi
  have HF := Lib.hid (qFull_any h)
  have hq := h.size
  have hll := hE.ll
  have h1 := (h.below ((Below.refl _ w).alloc (Nat.le_refl _) (.cells #[.int .i64 n.op, .int .i64 n.i, .int .i64 n.e, .int .i64 n.g, .int .i64 n.x, .int .i64 n.y] 65)))
  have HLY : Hid (∀ o, LayW (w.alloc o)) := Lib.hid (fun o => (hL.below h.be).below ((Below.refl _ w).alloc (Nat.le_refl _) o))
  rw [hn] at m0 m1 m2 m3 m4 m5
  have hadb : ∀ q, (ad.add q).block < K.w0.heap.size := fun q => by rw [block_of_add]; exact hb
  have p0 := h.keep (a := ad.add (i * 6)) (hadb _) m0
  have p1 := add_cell (h.keep (a := ad.add (i * 6 + 1)) (hadb _) m1)
  have p2 := add_cell (h.keep (a := ad.add (i * 6 + 2)) (hadb _) m2)
  have p3 := add_cell (h.keep (a := ad.add (i * 6 + 3)) (hadb _) m3)
  have p4 := add_cell (h.keep (a := ad.add (i * 6 + 4)) (hadb _) m4)
  have p5 := add_cell (h.keep (a := ad.add (i * 6 + 5)) (hadb _) m5)
  obtain ⟨c0, c1, c2, c3⟩ := h.cells
  rw [hA] at c3
  obtain ⟨x, hxn⟩ : ∃ x : Nat, n.x = (x : Int) := ⟨n.x.toNat, by omega⟩
  rw [hxn] at p4 hxi h1
  rw [hxn, Int.toNat_natCast] at HTX hx
  obtain ⟨_, hxi⟩ := hxi
  rw [Int.toNat_natCast] at hxi
  obtain ⟨y, hyn⟩ : ∃ y : Nat, n.y = (y : Int) := ⟨n.y.toNat, by omega⟩
  rw [hyn] at p5 hyi h1
  rw [hyn, Int.toNat_natCast] at HTX hy
  obtain ⟨_, hyi⟩ := hyi
  rw [Int.toNat_natCast] at hyi
  rw [hm] at p0 HTX h1 hy
  have hf : decide (4000 < t.length) = false := decide_eq_false hfull
  rw [hf] at HF
  obtain ⟨r0, r1, r2, r3, r4⟩ := (HLY.out (.cells #[.int .i64 (m : Int), .int .i64 n.i, .int .i64 n.e, .int .i64 n.g, .int .i64 (x : Int), .int .i64 (y : Int)] 65)).at_ hm1.1 hm1.2
  rw [hkind] at r0
  have hm22 := hm1.2
  have HQ0 : Hid (QP K ((w.alloc (.cells #[.int .i64 (m : Int), .int .i64 n.i, .int .i64 n.e, .int .i64 n.g, .int .i64 (x : Int), .int .i64 (y : Int)] 65)).alloc (.cells #[.int .i64 5, .string (wordB (m : Int)), .int .i64 ((levN (m : Int) : Nat) : Int), .int .i64 ((reqX (m : Int) : Nat) : Int), .int .i64 ((reqY (m : Int) : Nat) : Int)] 79)) t) := Lib.hid (h1.below ((Below.refl _ _).alloc (Nat.le_refl _) _))
  have HO0 : Hid (Oth w ((w.alloc (.cells #[.int .i64 (m : Int), .int .i64 n.i, .int .i64 n.e, .int .i64 n.g, .int .i64 (x : Int), .int .i64 (y : Int)] 65)).alloc (.cells #[.int .i64 5, .string (wordB (m : Int)), .int .i64 ((levN (m : Int) : Nat) : Int), .int .i64 ((reqX (m : Int) : Nat) : Int), .int .i64 ((reqY (m : Int) : Nat) : Int)] 79))) := Lib.hid (((Oth.refl w).alloc _).alloc _)
  have HS0 : Hid (w.heap.size + 1 + 1 = ((w.alloc (.cells #[.int .i64 (m : Int), .int .i64 n.i, .int .i64 n.e, .int .i64 n.g, .int .i64 (x : Int), .int .i64 (y : Int)] 65)).alloc (.cells #[.int .i64 5, .string (wordB (m : Int)), .int .i64 ((levN (m : Int) : Nat) : Int), .int .i64 ((reqX (m : Int) : Nat) : Int), .int .i64 ((reqY (m : Int) : Nat) : Int)] 79)).heap.size) := Lib.hid (by simp)
  have HBX : Hid (∀ W, Oth ((w.alloc (.cells #[.int .i64 (m : Int), .int .i64 n.i, .int .i64 n.e, .int .i64 n.g, .int .i64 (x : Int), .int .i64 (y : Int)] 65)).alloc (.cells #[.int .i64 5, .string (wordB (m : Int)), .int .i64 ((levN (m : Int) : Nat) : Int), .int .i64 ((reqX (m : Int) : Nat) : Int), .int .i64 ((reqY (m : Int) : Nat) : Int)] 79)) W → W.heap[w.heap.size]? = some (.cells #[.int .i64 (m : Int), .int .i64 n.i, .int .i64 n.e, .int .i64 n.g, .int .i64 (x : Int), .int .i64 (y : Int)] 65 (0, 0)) ∧ W.heap[w.heap.size + 1]? = some (.cells #[.int .i64 5, .string (wordB (m : Int)), .int .i64 ((levN (m : Int) : Nat) : Int), .int .i64 ((reqX (m : Int) : Nat) : Int), .int .i64 ((reqY (m : Int) : Nat) : Int)] 79 (0, 0))) := Lib.hid (fun W hW => by
    refine ⟨hW _ _ _ (by decide) (by decide) ?_, hW _ _ _ (by decide) (by decide) ?_⟩
    · rw [Below.heap_alloc _ _ _ (by simp)]; exact heap_alloc_new w _
    · have := heap_alloc_new (w.alloc (.cells #[.int .i64 (m : Int), .int .i64 n.i, .int .i64 n.e, .int .i64 n.g, .int .i64 (x : Int), .int .i64 (y : Int)] 65)) (.cells #[.int .i64 5, .string (wordB (m : Int)), .int .i64 ((levN (m : Int) : Nat) : Int), .int .i64 ((reqX (m : Int) : Nat) : Int), .int .i64 ((reqY (m : Int) : Nat) : Int)] 79)
      simpa using this)
  have hwz := wordB_size (m : Int)
  have z32 : (⟨#[32]⟩ : ByteArray).size = 1 := rfl
  have z91 : (⟨#[91]⟩ : ByteArray).size = 1 := rfl
  have z93 : (⟨#[93]⟩ : ByteArray).size = 1 := rfl
  have Hx := Lib.hid hx
  have Hy := Lib.hid hy
  have HREQ : Hid (((reqX (m : Int) : Nat) : Int) = 0) := Lib.hid (by rw [← hm]; rcases hop with h9 | h9 <;> rw [h9] <;> rfl)
  have hag : agOk K.A.length n := agOk_of (E := ⟨K.A, K.F, K.X, []⟩) hokE (by rcases hop with h9 | h9 <;> rw [h9] <;> first | exact .inl rfl | exact .inr rfl)
  have HS : Hid (∀ W, Oth ((w.alloc (.cells #[.int .i64 (m : Int), .int .i64 n.i, .int .i64 n.e, .int .i64 n.g, .int .i64 (x : Int), .int .i64 (y : Int)] 65)).alloc (.cells #[.int .i64 5, .string (wordB (m : Int)), .int .i64 ((levN (m : Int) : Nat) : Int), .int .i64 ((reqX (m : Int) : Nat) : Int), .int .i64 ((reqY (m : Int) : Nat) : Int)] 79)) W → (W.cell? ⟨w.heap.size, 0, none⟩ = some (.int .i64 (m : Int)) ∧ W.cell? ⟨w.heap.size, 1, none⟩ = some (.int .i64 n.i) ∧ W.cell? ⟨w.heap.size, 2, none⟩ = some (.int .i64 n.e) ∧ W.cell? ⟨w.heap.size, 3, none⟩ = some (.int .i64 n.g) ∧ W.cell? ⟨w.heap.size, 4, none⟩ = some (.int .i64 (x : Int)) ∧ W.cell? ⟨w.heap.size, 5, none⟩ = some (.int .i64 (y : Int)) ∧ W.cell? ⟨(w.heap.size + 1), 1, none⟩ = some (.string (wordB (m : Int)))) ∧ Hid (Oth ((w.alloc (.cells #[.int .i64 (m : Int), .int .i64 n.i, .int .i64 n.e, .int .i64 n.g, .int .i64 (x : Int), .int .i64 (y : Int)] 65)).alloc (.cells #[.int .i64 5, .string (wordB (m : Int)), .int .i64 ((levN (m : Int) : Nat) : Int), .int .i64 ((reqX (m : Int) : Nat) : Int), .int .i64 ((reqY (m : Int) : Nat) : Int)] 79)) W)) := Lib.hid (fun W hW => by
    obtain ⟨b1, b2⟩ := HBX.out W hW
    refine ⟨⟨Lib.cell_of_heap b1 0, Lib.cell_of_heap b1 1, Lib.cell_of_heap b1 2, Lib.cell_of_heap b1 3, Lib.cell_of_heap b1 4, Lib.cell_of_heap b1 5, Lib.cell_of_heap b2 1⟩, Lib.hid hW⟩
    )
  have HAG : Hid (Calls Tryz.prog 57 #[.pointer (some ⟨K.w0.heap.size, 0, none⟩), .agg #[.int .i64 (m : Int), .int .i64 n.i, .int .i64 n.e, .int .i64 n.g, .int .i64 (x : Int), .int .i64 (y : Int)]] (((w.alloc (.cells #[.int .i64 (m : Int), .int .i64 n.i, .int .i64 n.e, .int .i64 n.g, .int .i64 (x : Int), .int .i64 (y : Int)] 65)).alloc (.cells #[.int .i64 5, .string (wordB (m : Int)), .int .i64 ((levN (m : Int) : Nat) : Int), .int .i64 ((reqX (m : Int) : Nat) : Int), .int .i64 ((reqY (m : Int) : Nat) : Int)] 79))).drew fun e W' => (∃ s : ByteArray, e = .returned (.string s) ∧ Hid (s.data.toList = agB K.A n) ∧ s.size ≤ 200) ∧ Hid (Below ((w.alloc (.cells #[.int .i64 (m : Int), .int .i64 n.i, .int .i64 n.e, .int .i64 n.g, .int .i64 (x : Int), .int .i64 (y : Int)] 65)).alloc (.cells #[.int .i64 5, .string (wordB (m : Int)), .int .i64 ((levN (m : Int) : Nat) : Int), .int .i64 ((reqX (m : Int) : Nat) : Int), .int .i64 ((reqY (m : Int) : Nat) : Int)] 79)).heap.size ((w.alloc (.cells #[.int .i64 (m : Int), .int .i64 n.i, .int .i64 n.e, .int .i64 n.g, .int .i64 (x : Int), .int .i64 (y : Int)] 65)).alloc (.cells #[.int .i64 5, .string (wordB (m : Int)), .int .i64 ((levN (m : Int) : Nat) : Int), .int .i64 ((reqX (m : Int) : Nat) : Int), .int .i64 ((reqY (m : Int) : Nat) : Int)] 79)) W') ∧ W'.cell? ⟨w.heap.size, 0, none⟩ = some (.int .i64 (m : Int)) ∧ W'.cell? ⟨w.heap.size, 1, none⟩ = some (.int .i64 n.i) ∧ W'.cell? ⟨w.heap.size, 2, none⟩ = some (.int .i64 n.e) ∧ W'.cell? ⟨w.heap.size, 3, none⟩ = some (.int .i64 n.g) ∧ W'.cell? ⟨w.heap.size, 4, none⟩ = some (.int .i64 (x : Int)) ∧ W'.cell? ⟨w.heap.size, 5, none⟩ = some (.int .i64 (y : Int)) ∧ W'.cell? ⟨(w.heap.size + 1), 1, none⟩ = some (.string (wordB (m : Int))) ∧ Hid (Oth ((w.alloc (.cells #[.int .i64 (m : Int), .int .i64 n.i, .int .i64 n.e, .int .i64 n.g, .int .i64 (x : Int), .int .i64 (y : Int)] 65)).alloc (.cells #[.int .i64 5, .string (wordB (m : Int)), .int .i64 ((levN (m : Int) : Nat) : Int), .int .i64 ((reqX (m : Int) : Nat) : Int), .int .i64 ((reqY (m : Int) : Nat) : Int)] 79)) W')) := Lib.hid (by
    have h5 := qAgents_any hE (HQ0.out.below (Below.refl _ _).drew) n hag
    rw [hm, hxn, hyn] at h5
    refine h5.mono ?_
    rintro e w' ⟨⟨s, h6, h7, h8⟩, h9⟩
    have hb9 : Below ((w.alloc (.cells #[.int .i64 (m : Int), .int .i64 n.i, .int .i64 n.e, .int .i64 n.g, .int .i64 (x : Int), .int .i64 (y : Int)] 65)).alloc (.cells #[.int .i64 5, .string (wordB (m : Int)), .int .i64 ((levN (m : Int) : Nat) : Int), .int .i64 ((reqX (m : Int) : Nat) : Int), .int .i64 ((reqY (m : Int) : Nat) : Int)] 79)).heap.size ((w.alloc (.cells #[.int .i64 (m : Int), .int .i64 n.i, .int .i64 n.e, .int .i64 n.g, .int .i64 (x : Int), .int .i64 (y : Int)] 65)).alloc (.cells #[.int .i64 5, .string (wordB (m : Int)), .int .i64 ((levN (m : Int) : Nat) : Int), .int .i64 ((reqX (m : Int) : Nat) : Int), .int .i64 ((reqY (m : Int) : Nat) : Int)] 79)) w' := (Below.refl _ _).drew.trans h9
    obtain ⟨⟨g0, g1, g2, g3, g4, g5, g6⟩, g7⟩ := HS.out w' ((Oth.refl _).below hb9)
    exact ⟨⟨s, h6, Lib.hid h7, h8⟩, Lib.hid hb9, g0, g1, g2, g3, g4, g5, g6, g7⟩)
  have hcat : ∀ s : ByteArray, s.size ≤ 200 → (catB [wordB (m : Int), ⟨#[91]⟩, s]).length ≤ 210 := fun s hs => by simp only [catB_cons, catB_nil]; omega
  have HWR : Hid (∀ (W : World) (s : ByteArray), Hid (Below ((w.alloc (.cells #[.int .i64 (m : Int), .int .i64 n.i, .int .i64 n.e, .int .i64 n.g, .int .i64 (x : Int), .int .i64 (y : Int)] 65)).alloc (.cells #[.int .i64 5, .string (wordB (m : Int)), .int .i64 ((levN (m : Int) : Nat) : Int), .int .i64 ((reqX (m : Int) : Nat) : Int), .int .i64 ((reqY (m : Int) : Nat) : Int)] 79)).heap.size ((w.alloc (.cells #[.int .i64 (m : Int), .int .i64 n.i, .int .i64 n.e, .int .i64 n.g, .int .i64 (x : Int), .int .i64 (y : Int)] 65)).alloc (.cells #[.int .i64 5, .string (wordB (m : Int)), .int .i64 ((levN (m : Int) : Nat) : Int), .int .i64 ((reqX (m : Int) : Nat) : Int), .int .i64 ((reqY (m : Int) : Nat) : Int)] 79)) W) → s.size ≤ 200 → Calls Tryz.prog 55 #[.pointer (some ⟨K.w0.heap.size, 0, none⟩), .slice (some ⟨W.heap.size, 0, none⟩) 3 3] (W.alloc (.cells #[.string (wordB (m : Int)), .string ⟨#[91]⟩, .string s] 9)) fun e W' => e = .returned (.tuple #[]) ∧ Hid (QP K W' (t ++ catB [wordB (m : Int), ⟨#[91]⟩, s])) ∧ W'.cell? ⟨w.heap.size, 0, none⟩ = some (.int .i64 (m : Int)) ∧ W'.cell? ⟨w.heap.size, 1, none⟩ = some (.int .i64 n.i) ∧ W'.cell? ⟨w.heap.size, 2, none⟩ = some (.int .i64 n.e) ∧ W'.cell? ⟨w.heap.size, 3, none⟩ = some (.int .i64 n.g) ∧ W'.cell? ⟨w.heap.size, 4, none⟩ = some (.int .i64 (x : Int)) ∧ W'.cell? ⟨w.heap.size, 5, none⟩ = some (.int .i64 (y : Int)) ∧ W'.cell? ⟨(w.heap.size + 1), 1, none⟩ = some (.string (wordB (m : Int))) ∧ Hid (Oth ((w.alloc (.cells #[.int .i64 (m : Int), .int .i64 n.i, .int .i64 n.e, .int .i64 n.g, .int .i64 (x : Int), .int .i64 (y : Int)] 65)).alloc (.cells #[.int .i64 5, .string (wordB (m : Int)), .int .i64 ((levN (m : Int) : Nat) : Int), .int .i64 ((reqX (m : Int) : Nat) : Int), .int .i64 ((reqY (m : Int) : Nat) : Int)] 79)) W')) := Lib.hid (fun W s hW hs => by
    refine (qWr3 (HQ0.out.below hW.out) (wordB (m : Int)) (⟨#[91]⟩) (s) (by have := hcat s hs; omega) _ rfl).mono ?_
    rintro e w' ⟨he, hq, ho⟩
    obtain ⟨⟨g0, g1, g2, g3, g4, g5, g6⟩, g7⟩ := HS.out w' (((Oth.refl _).below hW.out).trans ho)
    exact ⟨he, Lib.hid hq, g0, g1, g2, g3, g4, g5, g6, g7⟩)
  obtain ⟨⟨j0, j1, j2, j3, j4, j5, j6⟩, j7⟩ := HS.out (((w.alloc (.cells #[.int .i64 (m : Int), .int .i64 n.i, .int .i64 n.e, .int .i64 n.g, .int .i64 (x : Int), .int .i64 (y : Int)] 65)).alloc (.cells #[.int .i64 5, .string (wordB (m : Int)), .int .i64 ((levN (m : Int) : Nat) : Int), .int .i64 ((reqX (m : Int) : Nat) : Int), .int .i64 ((reqY (m : Int) : Nat) : Int)] 79))).drew ((Oth.refl _).below (Below.refl _ _).drew)
  obtain ⟨⟨i0, i1, i2, i3, i4, i5, i6⟩, i7⟩ := HS.out (((w.alloc (.cells #[.int .i64 (m : Int), .int .i64 n.i, .int .i64 n.e, .int .i64 n.g, .int .i64 (x : Int), .int .i64 (y : Int)] 65)).alloc (.cells #[.int .i64 5, .string (wordB (m : Int)), .int .i64 ((levN (m : Int) : Nat) : Int), .int .i64 ((reqX (m : Int) : Nat) : Int), .int .i64 ((reqY (m : Int) : Nat) : Int)] 79))) (Oth.refl _)
  unfold NodeRun
  clear hE hL hn ho hop m0 m1 m2 m3 m4 m5 hadb hA hb hm1 hkind hf c0 c1 c2 hm h h1 hx hxn hag hokE hy hyn
  go_enter Tryz.func29, Tryz.ntmps29
  go_wp2_with fail
  refine (HF.out).mono ?_
  rintro e w1 ⟨rfl, hw⟩
  subst w1
  go_wp2_with fail
  go_region_held3 (fun W => (W.cell? ⟨w.heap.size, 0, none⟩ = some (.int .i64 (m : Int)) ∧ W.cell? ⟨w.heap.size, 1, none⟩ = some (.int .i64 n.i) ∧ W.cell? ⟨w.heap.size, 2, none⟩ = some (.int .i64 n.e) ∧ W.cell? ⟨w.heap.size, 3, none⟩ = some (.int .i64 n.g) ∧ W.cell? ⟨w.heap.size, 4, none⟩ = some (.int .i64 (x : Int)) ∧ W.cell? ⟨w.heap.size, 5, none⟩ = some (.int .i64 (y : Int)) ∧ W.cell? ⟨(w.heap.size + 1), 1, none⟩ = some (.string (wordB (m : Int))) ∧ Hid (Oth ((w.alloc (.cells #[.int .i64 (m : Int), .int .i64 n.i, .int .i64 n.e, .int .i64 n.g, .int .i64 (x : Int), .int .i64 (y : Int)] 65)).alloc (.cells #[.int .i64 5, .string (wordB (m : Int)), .int .i64 ((levN (m : Int) : Nat) : Int), .int .i64 ((reqX (m : Int) : Nat) : Int), .int .i64 ((reqY (m : Int) : Nat) : Int)] 79)) W))) (first | assumption | (refine ⟨?_, ?_, ?_, ?_, ?_, ?_, ?_, ?_⟩ <;> first | assumption | exact Oth.hid_alloc (by assumption) _ | go_keep) | go_keep)
    (first
      | (go_at_call 57; refine (HAG.out).mono ?_; rintro e Wb ⟨⟨s, rfl, hs, hz⟩, hb, k0, k1, k2, k3, k4, k5, k6, k7⟩)
      | (go_at_call 55; refine (HWR.out Wb s hb hz).mono ?_; rintro e u1 ⟨rfl, HQ1, q0, q1, q2, q3, q4, q5, q6, HO1⟩))
  have hl1 : (t ++ catB [wordB (m : Int), ⟨#[91]⟩, s]).length ≤ 4000 + 300 * i + 210 := by have := hcat s hz; rw [List.length_append]; omega
  have HE1 := Lib.hid (Ext.app t (catB [wordB (m : Int), ⟨#[91]⟩, s]))
  obtain ⟨b1, b2⟩ := HBX.out _ HO1.out
  have x4 := Lib.cell_of_heap b1 4
  have x5 := Lib.cell_of_heap b1 5
  have y3 := Lib.cell_of_heap b2 3
  have y4 := Lib.cell_of_heap b2 4
  simp only [List.getElem?_toArray, List.getElem?_cons_succ, List.getElem?_cons_zero] at x4 x5 y3 y4
  rw [HREQ.out] at y3
  generalize ht1 : (t ++ catB [wordB (m : Int), ⟨#[91]⟩, s]) = t1 at *
  clear ht1 b1 b2 HWR HAG hcat
  have HP2 := Lib.hid (Hx.out _ _ HQ1.out (by omega))
  go_wp2_with fail
  refine (HP2.out).mono ?_
  rintro e u2 ⟨rfl, t2, hq2, he2, hm2, ho2⟩
  have hl2 : t2.length ≤ 4000 + 300 * i + 214 := by omega
  have HQ2 := Lib.hid hq2
  have HE2 := Lib.hid (HE1.out.trans he2)
  clear HP2 hm2 he2
  have HO2 := Lib.hid (HO1.out.trans ho2)
  obtain ⟨b1, b2⟩ := HBX.out _ HO2.out
  have x4 := Lib.cell_of_heap b1 4
  have x5 := Lib.cell_of_heap b1 5
  have y3 := Lib.cell_of_heap b2 3
  have y4 := Lib.cell_of_heap b2 4
  have y1 := Lib.cell_of_heap b2 1
  simp only [List.getElem?_toArray, List.getElem?_cons_succ, List.getElem?_cons_zero] at x4 x5 y3 y4 y1
  clear hq2 ho2 b1 b2
  have hc3 : (catB [⟨#[93]⟩]).length ≤ 1 := by simp only [catB_cons, catB_nil]; omega
  have HW3 := Lib.hid (qWr1 HQ2.out (⟨#[93]⟩) (by omega) _ rfl)
  go_wp2_with fail
  refine (HW3.out).mono ?_
  rintro e u3 ⟨rfl, hq3, ho3⟩
  have HQ3 := Lib.hid hq3
  have HE3 := Lib.hid (HE2.out.trans (Ext.app t2 (catB [⟨#[93]⟩])))
  have hl3 : (t2 ++ catB [⟨#[93]⟩]).length ≤ 4000 + 300 * i + 215 := by rw [List.length_append]; omega
  generalize ht3 : (t2 ++ catB [⟨#[93]⟩]) = t3 at *
  clear ht3 hc3 HW3
  have HO3 := Lib.hid (HO2.out.trans ho3)
  obtain ⟨b1, b2⟩ := HBX.out _ HO3.out
  have x4 := Lib.cell_of_heap b1 4
  have x5 := Lib.cell_of_heap b1 5
  have y3 := Lib.cell_of_heap b2 3
  have y4 := Lib.cell_of_heap b2 4
  have y1 := Lib.cell_of_heap b2 1
  simp only [List.getElem?_toArray, List.getElem?_cons_succ, List.getElem?_cons_zero] at x4 x5 y3 y4 y1
  clear hq3 ho3 b1 b2
  have HP4 := Lib.hid (Hy.out _ _ HQ3.out (by omega))
  go_wp2_with fail
  refine (HP4.out).mono ?_
  rintro e u4 ⟨rfl, t4, hq4, he4, hm4, ho4⟩
  have hl4 : t4.length ≤ 4000 + 300 * i + 218 := by omega
  have HQ4 := Lib.hid hq4
  have HE4 := Lib.hid (HE3.out.trans he4)
  clear HP4 hm4 he4
  have HO4 := Lib.hid (HO3.out.trans ho4)
  obtain ⟨b1, b2⟩ := HBX.out _ HO4.out
  have x4 := Lib.cell_of_heap b1 4
  have x5 := Lib.cell_of_heap b1 5
  have y3 := Lib.cell_of_heap b2 3
  have y4 := Lib.cell_of_heap b2 4
  have y1 := Lib.cell_of_heap b2 1
  simp only [List.getElem?_toArray, List.getElem?_cons_succ, List.getElem?_cons_zero] at x4 x5 y3 y4 y1
  clear hq4 ho4 b1 b2
  have HR : Hid (∃ t', QP K u4 t' ∧ Ext t (tx K.A K.F K.X K.l i) t' ∧ t'.length ≤ max t.length (4000 + 300 * (i + 1)) ∧ Oth w u4) := Lib.hid ⟨_, HQ4.out, by rw [(HTX.out s hs.out)]; simpa only [List.append_assoc] using HE4.out, by omega, HO0.out.trans HO4.out⟩
  clear HQ1 HE1 HQ2 HE2 HQ3 HE3 HQ4 HE4
  go_wp2
  first | go_end0 | (refine bodyPost_ret (results_none rfl _ _ _) rfl ?_)
  exact ⟨rfl, HR.out⟩
end Go.Proofs.YtenbhalnpiahaaaGreatDoor
