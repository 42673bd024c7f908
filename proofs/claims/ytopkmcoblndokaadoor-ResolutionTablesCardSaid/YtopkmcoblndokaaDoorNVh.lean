/- Layer 6: texts joined: Ku Kx Kv. -/
import Derived.Test.YtopkmcoblndokaaDoorNVg
/- Layer 5: the program's finish. -/
namespace Go.Proofs.YtopkmcoblndokaaDoor
open Go.RowKit Go.Proofs.Ws Go.Maps
set_option maxRecDepth 100000
set_option maxRecDepth 100000 in
set_option maxHeartbeats 8000000 in
theorem pFin_new (B base bw bp bm c n i : Nat) (A : Option Addr) (f : List Nd) (s s2 : Wk) (x x' : Nd) (w : World) (hi : i < n) (hn : n ≤ 1000) (hS : PW w base bw bp bm A c n s) (hd : s.done.getD i none = none) (hR : Reads w B 6 A n (nds f))
    (hx : f.getD i nd0 = x) (hc2 : Cnt s2) (hw : NdW x')
    (HREN : ∀ W, PW W base bw bp bm A c n s → Reads W B 6 A n (nds f) → Calls Tryd.prog 88 #[nv x, .func (Fn.func 69) #[.pointer (some ⟨bw, 0, none⟩)] #[]] W fun e W' =>
      e = .returned (nv x') ∧ PW W' base bw bp bm A c n s2 ∧ Fp bw bp bm W W') :
    Calls Tryd.prog 69 #[.pointer (some ⟨bw, 0, none⟩), .int .i64 i] w fun e w' =>
      e = .returned (.int .i64 ((putNd s2.out x').1 : Nat)) ∧ PW w' base bw bp bm A c n ⟨(putNd s2.out x').2, s2.done.set i (some (putNd s2.out x').1)⟩ ∧ Fp bw bp bm w w' := by
  have h3 := hS.pl
  have h4 := hS.frm
  have hc := hS.cells i hi
  rw [hd] at hc
  replace hc : w.cell? ⟨bp, i, none⟩ = some (.int .i64 0) := hc
  obtain ⟨ad, rfl, hb, m0, m1, m2, m3, m4, m5⟩ := hR.nd_at hi
  rw [hx] at m0 m1 m2 m3 m4 m5
  have l1 := add_cell m1
  have l2 := add_cell m2
  have l3 := add_cell m3
  have l4 := add_cell m4
  have l5 := add_cell m5
  have hpl : (putNd s2.out x').1 ≤ s2.out.length + 1 := by have := (putNd_len s2.out x').1; have := (putNd_len s2.out x').2; omega
  have HADD := Lib.hid (fun W (h : PW W base bw bp bm (some ad) c n s2) => pAdd_any x' base bw bp bm c n (some ad) s2 W h hw (Nat.le_trans (hc2.le h.len) hn))
  have HLEN := Lib.hid (fun W (h : PW W base bw bp bm (some ad) c n s2) => hc2.le h.len)
  have HREN2 := Lib.hid (HREN w.drew (hS.drewN 1) hR.drew)
  have HF0 := Lib.hid ((Fp.of_below (Below.refl _ w) (Nat.lt_of_lt_of_le hS.lw hS.lb) : Fp bw bp bm w w).drewN 1)
  have hne := hS.n1
  have hne2 := hne.symm
  generalize putNd s2.out x' = p at *
  unfold nv at HADD HREN2
  clear hS hd HREN hR hx hw
  go_enter Tryd.func69, Tryd.ntmps69
  go_wp2
  go_region_with (first
    | (go_at_call 88; refine (HREN2.out).mono ?_; rintro e w5 ⟨rfl, hS5, hF5⟩; have HS5 := Lib.hid hS5; have HF5 := Lib.hid (HF0.out.trans hF5); have h35 := hS5.pl; have hL5 := HLEN.out _ hS5; clear hS5 hF5)
    | (go_at_call 87; refine (HADD.out _ HS5.out).mono ?_; rintro e w6 ⟨rfl, hS6, hF6⟩; have HS6 := Lib.hid hS6; have HF6 := Lib.hid (HF5.out.trans hF6); have h36 := hS6.pl; have hc6 := hS6.cells i hi; have hf6 := hS6.free i hi; have hwr : IntKind.i64.wrap ((p.1 : Int) + 1) = ((p.1 + 1 : Nat) : Int) := (by rw [IntKind.wrap_i64]; omega); clear hS6 hF6))
  all_goals clear hc h3 h4 h35 m0 m1 m2 m3 m4 m5 l1 l2 l3 l4 l5
  all_goals have hw3 : wrap64 (p.1 : Int) = (p.1 : Int) := (by unfold wrap64; omega)
  all_goals go_wp2
  all_goals go_ret
  all_goals exact ⟨rfl, HS6.out.set hi p.1, HF6.out.setP _ hne⟩
end Go.Proofs.YtopkmcoblndokaaDoor
/- Layer 5: the program's finish, at any node. -/
namespace Go.Proofs.YtopkmcoblndokaaDoor
open Go.RowKit Go.Proofs.Ws Go.Maps
set_option maxRecDepth 100000
/-- a node whose fields are in their ranges, with numbers of operands below 1000 -/
structure NdR (n : Nd) : Prop where
  op : 0 ≤ n.op ∧ n.op < 1000
  i : 0 ≤ n.i ∧ n.i < 1000
  e : 0 ≤ n.e ∧ n.e < 1000
  g : 0 ≤ n.g ∧ n.g < 1000
theorem NdR.wide {n : Nd} (h : NdR n) (hx : 0 ≤ n.x ∧ n.x ≤ 1000) (hy : 0 ≤ n.y ∧ n.y ≤ 1000) : NdW n :=
  ⟨WalkArith.wf_i64 (by have := h.op; omega), WalkArith.wf_i64 (by have := h.i; omega), WalkArith.wf_i64 (by have := h.e; omega), WalkArith.wf_i64 (by have := h.g; omega), WalkArith.wf_i64 (by omega), WalkArith.wf_i64 (by omega)⟩
theorem NdR.withX {m : Nd} (h : NdR m) {x : Nat} (hx : x ≤ 1000) (hy : m.y = 0) : NdW { m with x := (x : Int) } := by
  have h0 := h.op
  have h1 := h.i
  have h2 := h.e
  have h3 := h.g
  refine ⟨?_, ?_, ?_, ?_, ?_, ?_⟩
  · show (Lit.int .i64 m.op).wf = true
    exact WalkArith.wf_i64 (by omega)
  · show (Lit.int .i64 m.i).wf = true
    exact WalkArith.wf_i64 (by omega)
  · show (Lit.int .i64 m.e).wf = true
    exact WalkArith.wf_i64 (by omega)
  · show (Lit.int .i64 m.g).wf = true
    exact WalkArith.wf_i64 (by omega)
  · show (Lit.int .i64 (x : Int)).wf = true
    exact WalkArith.wf_i64 (by omega)
  · show (Lit.int .i64 m.y).wf = true
    exact WalkArith.wf_i64 (by omega)
theorem NdR.withXY {m : Nd} (h : NdR m) {x y : Nat} (hx : x ≤ 1000) (hy : y ≤ 1000) : NdW { m with x := (x : Int), y := (y : Int) } := by
  have h0 := h.op
  have h1 := h.i
  have h2 := h.e
  have h3 := h.g
  refine ⟨?_, ?_, ?_, ?_, ?_, ?_⟩
  · show (Lit.int .i64 m.op).wf = true
    exact WalkArith.wf_i64 (by omega)
  · show (Lit.int .i64 m.i).wf = true
    exact WalkArith.wf_i64 (by omega)
  · show (Lit.int .i64 m.e).wf = true
    exact WalkArith.wf_i64 (by omega)
  · show (Lit.int .i64 m.g).wf = true
    exact WalkArith.wf_i64 (by omega)
  · show (Lit.int .i64 (x : Int)).wf = true
    exact WalkArith.wf_i64 (by omega)
  · show (Lit.int .i64 (y : Int)).wf = true
    exact WalkArith.wf_i64 (by omega)
theorem shO_2 {op : Int} (h : usesY op = true) : shO op = 2 := by unfold shO; rw [if_pos h]
theorem shO_1 {op : Int} (h : usesY op = false) (hx : usesX op = true) : shO op = 1 := by unfold shO; rw [if_neg (by rw [h]; decide), if_pos hx]
theorem shO_0 {op : Int} (h : usesY op = false) (hx : usesX op = false) : shO op = 0 := by unfold shO; rw [if_neg (by rw [h]; decide), if_neg (by rw [hx]; decide)]
theorem pFinish_any (f : List Nd) (hf : opsL f) (hr : ∀ i, i < f.length → NdR (f.getD i nd0)) (A : Option Addr) (n c B base bw bp bm : Nat) (hn : n ≤ 1000) (hl : f.length = n) (hB1 : B ≤ bw) (hB2 : B ≤ bp) (hB4 : B ≤ bm) (hB3 : B ≤ base) :
    ∀ (fuel i : Nat) (s : Wk) (w : World), i < fuel → i < n → Cnt s → PW w base bw bp bm A c n s → Reads w B 6 A n (nds f) →
      Calls Tryd.prog 69 #[.pointer (some ⟨bw, 0, none⟩), .int .i64 (i : Int)] w fun e w' =>
        e = .returned (.int .i64 ((finW f fuel i s).1 : Nat)) ∧ PW w' base bw bp bm A c n (finW f fuel i s).2 ∧ Fp bw bp bm w w' := by
  intro fuel
  induction fuel with
  | zero => intro i s w h; omega
  | succ fuel ih =>
    intro i s w h hi hc hS hR
    have hsl : s.done.length = f.length := by rw [hS.len, hl]
    cases hd : s.done.getD i none with
    | some k =>
      have e0 : finW f (fuel + 1) i s = (k, s) := by unfold finW; rw [hd]
      rw [e0]
      have hk := hc.2 i k hd
      have hk2 := hc.le hS.len
      refine (pFin_old base bw bp bm c n i k A s w hi (by omega) hS hd).mono ?_
      rintro e w' ⟨rfl, rfl⟩
      exact ⟨rfl, hS, Fp.of_below (Below.refl _ _) (Nat.lt_of_lt_of_le hS.lw hS.lb)⟩
    | none =>
      have ho := hf i (by omega)
      have hri := hr i (by omega)
      have numle : ∀ (j : Nat) (t : Wk), j < fuel → j < n → Cnt t → t.done.length = n → (finW f fuel j t).1 ≤ 1000 := by
        intro j t h1 h2 h3 h4
        obtain ⟨b1, b2, _⟩ := finW_cnt hf fuel j t h1 (by omega) (by omega) h3
        have h5 := finW_done hf fuel j t h1 (by omega) (by omega)
        have h6 := b1.2 j _ h5
        have h7 := b1.le b2
        omega
      cases hux : usesX (f.getD i nd0).op with
      | false =>
        have huy : usesY (f.getD i nd0).op = false := by
          cases hq : usesY (f.getD i nd0).op
          · rfl
          · rw [usesY_X hq] at hux; cases hux
        have e1 : (f.getD i nd0).x = 0 := by have := ho.1; rw [if_neg (by rw [hux]; decide)] at this; exact this
        have e2 : (f.getD i nd0).y = 0 := by have := ho.2; rw [if_neg (by rw [huy]; decide)] at this; exact this
        have e3 : ({ f.getD i nd0 with x := (((f.getD i nd0).x.toNat : Nat) : Int), y := (((f.getD i nd0).y.toNat : Nat) : Int) } : Nd) = f.getD i nd0 := by
          rw [e1, e2]; cases hq : f.getD i nd0; rw [hq] at e1 e2; simp at e1 e2; simp [e1, e2]
        have e0 : finW f (fuel + 1) i s = ((putNd s.out (f.getD i nd0)).1, ⟨(putNd s.out (f.getD i nd0)).2, s.done.set i (some (putNd s.out (f.getD i nd0)).1)⟩) := by
          unfold finW; rw [hd]; simp only [hux, huy, Bool.false_eq_true, if_false]; rw [e3]
        rw [e0]
        exact pFin_new B base bw bp bm c n i A f s s _ _ w hi hn hS hd hR rfl hc (hri.wide (by omega) (by omega)) (fun W h1 h2 => pRen_0 B base bw bp bm c n A f s _ W h1 h2 hB3 (shO_0 huy hux))
      | true =>
        have ox := opsOk_x ho hux
        obtain ⟨a1, a2, _⟩ := finW_cnt hf fuel (f.getD i nd0).x.toNat s (by omega) (by omega) hsl hc
        have n1 := numle (f.getD i nd0).x.toNat s (by omega) (by omega) hc hS.len
        have HX : ∀ W, PW W base bw bp bm A c n s → Reads W B 6 A n (nds f) → Calls Tryd.prog 69 #[.pointer (some ⟨bw, 0, none⟩), .int .i64 (f.getD i nd0).x] W fun e W' => e = .returned (.int .i64 ((finW f fuel (f.getD i nd0).x.toNat s).1 : Int)) ∧ PW W' base bw bp bm A c n (finW f fuel (f.getD i nd0).x.toNat s).2 ∧ Fp bw bp bm W W' := fun W h1 h2 => by
          have := ih (f.getD i nd0).x.toNat s W (by omega) (by omega) hc h1 h2
          rw [Int.toNat_of_nonneg ox.1] at this
          exact this
        cases huy : usesY (f.getD i nd0).op with
        | false =>
          have e2 : (f.getD i nd0).y = 0 := by have := ho.2; rw [if_neg (by rw [huy]; decide)] at this; exact this
          have e0 : finW f (fuel + 1) i s = ((putNd (finW f fuel (f.getD i nd0).x.toNat s).2.out { f.getD i nd0 with x := ((finW f fuel (f.getD i nd0).x.toNat s).1 : Int) }).1, ⟨(putNd (finW f fuel (f.getD i nd0).x.toNat s).2.out { f.getD i nd0 with x := ((finW f fuel (f.getD i nd0).x.toNat s).1 : Int) }).2, (finW f fuel (f.getD i nd0).x.toNat s).2.done.set i (some (putNd (finW f fuel (f.getD i nd0).x.toNat s).2.out { f.getD i nd0 with x := ((finW f fuel (f.getD i nd0).x.toNat s).1 : Int) }).1)⟩) := by
            rw [finW, hd]; simp only [hux, huy, Bool.false_eq_true, if_false, if_true]
            rw [show (((f.getD i nd0).y.toNat : Nat) : Int) = (f.getD i nd0).y from by rw [e2]; rfl]
          rw [e0]
          have hw := hri.withX n1 e2
          exact pFin_new B base bw bp bm c n i A f s _ _ _ w hi hn hS hd hR rfl a1 hw (fun W h1 h2 => pRen_1 B base bw bp bm c n A f s _ _ _ W h1 h2 hB1 hB2 hB4 hB3 (shO_1 huy hux) HX)
        | true =>
          have oy := opsOk_y ho huy
          have e0 : finW f (fuel + 1) i s = ((putNd (finW f fuel (f.getD i nd0).y.toNat (finW f fuel (f.getD i nd0).x.toNat s).2).2.out { f.getD i nd0 with x := ((finW f fuel (f.getD i nd0).x.toNat s).1 : Int), y := ((finW f fuel (f.getD i nd0).y.toNat (finW f fuel (f.getD i nd0).x.toNat s).2).1 : Int) }).1, ⟨(putNd (finW f fuel (f.getD i nd0).y.toNat (finW f fuel (f.getD i nd0).x.toNat s).2).2.out { f.getD i nd0 with x := ((finW f fuel (f.getD i nd0).x.toNat s).1 : Int), y := ((finW f fuel (f.getD i nd0).y.toNat (finW f fuel (f.getD i nd0).x.toNat s).2).1 : Int) }).2, (finW f fuel (f.getD i nd0).y.toNat (finW f fuel (f.getD i nd0).x.toNat s).2).2.done.set i (some (putNd (finW f fuel (f.getD i nd0).y.toNat (finW f fuel (f.getD i nd0).x.toNat s).2).2.out { f.getD i nd0 with x := ((finW f fuel (f.getD i nd0).x.toNat s).1 : Int), y := ((finW f fuel (f.getD i nd0).y.toNat (finW f fuel (f.getD i nd0).x.toNat s).2).1 : Int) }).1)⟩) := by
            rw [finW, hd]; simp only [hux, huy, if_true]
          rw [e0]
          generalize finW f fuel (f.getD i nd0).x.toNat s = r1 at *
          obtain ⟨b1, b2, _⟩ := finW_cnt hf fuel (f.getD i nd0).y.toNat r1.2 (by omega) (by omega) a2 a1
          have n2 := numle (f.getD i nd0).y.toNat r1.2 (by omega) (by omega) a1 (by omega)
          have HY : ∀ W, PW W base bw bp bm A c n r1.2 → Reads W B 6 A n (nds f) → Calls Tryd.prog 69 #[.pointer (some ⟨bw, 0, none⟩), .int .i64 (f.getD i nd0).y] W fun e W' => e = .returned (.int .i64 ((finW f fuel (f.getD i nd0).y.toNat r1.2).1 : Int)) ∧ PW W' base bw bp bm A c n (finW f fuel (f.getD i nd0).y.toNat r1.2).2 ∧ Fp bw bp bm W W' := fun W h1 h2 => by
            have := ih (f.getD i nd0).y.toNat r1.2 W (by omega) (by omega) a1 h1 h2
            rw [Int.toNat_of_nonneg oy.1] at this
            exact this
          generalize finW f fuel (f.getD i nd0).y.toNat r1.2 = r2 at *
          have hw := hri.withXY n1 n2
          exact pFin_new B base bw bp bm c n i A f s r2.2 _ _ w hi hn hS hd hR rfl b1 hw (fun W h1 h2 => pRen_2 B base bw bp bm c n A f s r1.2 r2.2 r1.1 r2.1 _ W h1 h2 hB1 hB2 hB4 hB3 (shO_2 huy) HX HY)
end Go.Proofs.YtopkmcoblndokaaDoor
/- Layer 5: the program's canonical list. -/
namespace Go.Proofs.YtopkmcoblndokaaDoor
open Go.RowKit Go.Proofs.Ws Go.Maps
set_option maxRecDepth 100000
theorem own_base {w : World} {b b2 size n : Nat} {e : TypeId} {v : Value} {xs : List Value} (h : w.ownsRow b e size v n xs) (hb : b2 ≤ b) : w.ownsRow b2 e size v n xs := by
  refine ⟨h.1, ?_⟩
  rcases h.2 with hn | ⟨g, cap, cur, hv, h2, rest⟩
  · exact .inl hn
  · exact .inr ⟨g, cap, cur, hv, by omega, rest⟩
theorem Tryd.infoI : (Tryd.prog.info? 3).map (fun i => (i.zero, i.size, i.bytes)) = some (some (.int .i64 0), 1, 8) := by kernel_rfl
def zeros (n : Nat) : Array Value := (List.replicate n (Value.int .i64 0)).toArray
theorem made_zeros (n : Nat) : madeCells (Value.int IntKind.i64 0).cells n = zeros n := by
  apply Array.ext
  · simp [madeCells, zeros]
  · intro i h1 h2
    simp [madeCells, zeros, Value.cells, Nat.mod_one]
theorem makeI (w : World) (n : Nat) (hn : n ≤ 1000000) : (Instr.makeSlice 31 (.int .i64 (n : Int)) (.int .i64 (n : Int))).run Tryd.prog w = .ok (.slice (some ⟨w.heap.size, 0, none⟩) n n) (w.alloc (.cells (zeros n) 3)) := by
  obtain ⟨i0, hi, hz0, hz1, hz2⟩ := info_parts Tryd.infoI
  have h := run_make (P := Tryd.prog) w 31 3 i0 (.int .i64 0) Tryd.underlying31 hi hz0 .i64 .i64 n n (by omega) (Int.le_refl _) (by rw [hz2]; omega) (by omega)
  rw [h, hz1]
  simp only [Int.toNat_natCast, Nat.mul_one]
  rw [made_zeros]
theorem zeros_at {W : World} {g n : Nat} (h : W.heap[g]? = some (.cells (zeros n) 3 (0, 0))) {j : Nat} (hj : j < n) : W.cell? ⟨g, j, none⟩ = some (.int .i64 0) := by
  rw [Lib.cell_of_heap h]
  simp [zeros, hj]
/-- what the list of a walk must be -/
structure OkL (f : List Nd) : Prop where
  ne : f ≠ []
  ops : opsL f
  rng : ∀ i, i < f.length → NdR (f.getD i nd0)
theorem replicate_none (n j : Nat) : (List.replicate n (none : Option Nat)).getD j none = none := by
  rw [List.getD_eq_getElem?_getD, List.getElem?_replicate]
  split <;> rfl
theorem cnt0 (n : Nat) : Cnt ⟨[], List.replicate n none⟩ :=
  ⟨Nat.zero_le _, fun j k h => by rw [show (Wk.mk [] (List.replicate n none)).done = List.replicate n none from rfl, replicate_none] at h; cases h⟩
theorem PW.begin {w : World} {A : Option Addr} {n c : Nat} (t : TypeId) : PW (((w.alloc (.cells (zeros n) 3)).alloc (.map #[] 0)).alloc (.cells #[.slice A n c, .slice (some ⟨w.heap.size, 0, none⟩) n n, .slice none 0 0, .map (some (w.heap.size + 1))] t)) (w.heap.size + 3) (w.heap.size + 2) w.heap.size (w.heap.size + 1) A c n ⟨[], List.replicate n none⟩ := by
  have h0 : (w.alloc (.cells (zeros n) 3)).heap[w.heap.size]? = some (.cells (zeros n) 3 (0, 0)) := heap_alloc_new w _
  have s1 : (w.alloc (.cells (zeros n) 3)).heap.size = w.heap.size + 1 := by simp
  have hmap := World.ownsMap_made (w.alloc (.cells (zeros n) 3)) Tryd.prog 55 (plainElem (H := Unit) Tryd.prog 3)
  generalize w.alloc (.cells (zeros n) 3) = wa at *
  have s2 : (wa.alloc (.map #[] 0)).heap.size = w.heap.size + 2 := by simp; omega
  have h1 : (wa.alloc (.map #[] 0)).heap[w.heap.size]? = some (.cells (zeros n) 3 (0, 0)) := (Below.heap_alloc wa _ _ (by omega)).trans h0
  rw [s1] at hmap
  generalize wa.alloc (.map #[] 0) = wb at *
  have hbx := heap_alloc_new wb (.cells #[.slice A n c, .slice (some ⟨w.heap.size, 0, none⟩) n n, .slice none 0 0, .map (some (w.heap.size + 1))] t)
  rw [s2] at hbx
  have hm := ownsMap_keep hmap (Below.heap_alloc wb (.cells #[.slice A n c, .slice (some ⟨w.heap.size, 0, none⟩) n n, .slice none 0 0, .map (some (w.heap.size + 1))] t) _ (by omega))
  have h2 : (wb.alloc (.cells #[.slice A n c, .slice (some ⟨w.heap.size, 0, none⟩) n n, .slice none 0 0, .map (some (w.heap.size + 1))] t)).heap[w.heap.size]? = _ := (Below.heap_alloc wb _ _ (by omega)).trans h1
  have s3 : (wb.alloc (.cells #[.slice A n c, .slice (some ⟨w.heap.size, 0, none⟩) n n, .slice none 0 0, .map (some (w.heap.size + 1))] t)).heap.size = w.heap.size + 3 := by simp; omega
  generalize wb.alloc (.cells #[.slice A n c, .slice (some ⟨w.heap.size, 0, none⟩) n n, .slice none 0 0, .map (some (w.heap.size + 1))] t) = wc at *
  have hc := Lib.cell_of_heap hbx
  refine ⟨by omega, by omega, by omega, by omega, by omega, by omega, by omega, hc 0, hc 1, ⟨none, 0, hc 2, World.ownsRow_nil _ _ _ _⟩, Lib.frozen_of_heap hbx 2, hc 3, ⟨_, hm, MapOf.start⟩, by simp, fun j hj => ?_, fun j _ => Lib.frozen_of_heap h2 j⟩
  show _ = some (plV ((List.replicate n none).getD j none))
  rw [replicate_none]
  exact zeros_at h2 hj
set_option maxRecDepth 100000 in
set_option maxHeartbeats 4000000 in
theorem pCanon_own (f : List Nd) (hf : OkL f) (A : Option Addr) (n c : Nat) (w : World) (hR : Reads w w.heap.size 6 A n (nds f)) (hn : n ≤ 1000) :
    Calls Tryd.prog 45 #[.slice A n c] w fun e w' => ∃ A' c', e = .returned (.slice A' (canonF f).length c') ∧ w'.ownsRow w.heap.size 55 6 (.slice A' (canonF f).length c') (canonF f).length (nds (canonF f)) ∧ Below w.heap.size w w' := by
  have hl := hR.nd_len
  have hne : f.length ≠ 0 := by simpa using hf.ne
  have HR := Lib.hid hR
  have hmk := fun W => makeI W n (by omega)
  have hmm := @run_makeMap Tryd.prog
  have HFIN : Hid (∀ W, PW W (w.heap.size + 3) (w.heap.size + 2) w.heap.size (w.heap.size + 1) A c n ⟨[], List.replicate n none⟩ → Reads W w.heap.size 6 A n (nds f) →
      Calls Tryd.prog 69 #[.pointer (some ⟨w.heap.size + 1 + 1, 0, none⟩), .int .i64 ((n : Int) - 1)] W fun e W' =>
        e = .returned (.int .i64 ((finW f n (n - 1) ⟨[], List.replicate n none⟩).1 : Nat)) ∧ PW W' (w.heap.size + 3) (w.heap.size + 2) w.heap.size (w.heap.size + 1) A c n (finW f n (n - 1) ⟨[], List.replicate n none⟩).2 ∧ Fp (w.heap.size + 2) w.heap.size (w.heap.size + 1) W W') :=
    Lib.hid (fun W h1 h2 => by
      rw [show (n : Int) - 1 = ((n - 1 : Nat) : Int) from by omega]
      exact pFinish_any f hf.ops hf.rng A n c w.heap.size (w.heap.size + 3) (w.heap.size + 2) w.heap.size (w.heap.size + 1) hn hl (by omega) (by omega) (by omega) (by omega) n (n - 1) _ W (by omega) (by omega) (cnt0 n) h1 h2)
  have HE : Hid ((finW f n (n - 1) ⟨[], List.replicate n none⟩).2.out = canonF f) := Lib.hid (by unfold canonF; rw [hl])
  generalize finW f n (n - 1) ⟨[], List.replicate n none⟩ = r at *
  generalize canonF f = q at *
  obtain ⟨r1, out, done⟩ := r
  have HE2 : out = q := HE.out
  subst HE2
  clear HE
  have HB := PW.begin (w := w) (A := A) (n := n) (c := c) 103
  have HBL : Hid (Below w.heap.size w (((w.alloc (.cells (zeros n) 3)).alloc (.map #[] 0)).alloc (.cells #[.slice A n c, .slice (some ⟨w.heap.size, 0, none⟩) n n, .slice none 0 0, .map (some (w.heap.size + 1))] 103))) := Lib.hid ((((Below.refl _ w).alloc (Nat.le_refl _) _).alloc (by simp) _).alloc (by simp; omega) _)
  replace HB := Lib.hid HB
  clear hR hne hf
  go_enter Tryd.func45, Tryd.ntmps45
  go_wp2_with fail
  clear hmk hmm
  generalize ((w.alloc (.cells (zeros n) 3)).alloc (.map #[] 0)).alloc (.cells #[.slice A n c, .slice (some ⟨w.heap.size, 0, none⟩) n n, .slice none 0 0, .map (some (w.heap.size + 1))] 103) = w1 at *
  refine (HFIN.out _ HB.out (HR.out.below HBL.out)).mono ?_
  rintro e w2 ⟨rfl, hS, hF⟩
  obtain ⟨A2, c2, h2, hrow⟩ := hS.out
  have HO := Lib.hid hrow
  have HW := Lib.hid (HBL.out.trans (hF.low (B := w.heap.size) HBL.out.size (by omega) (by omega) (by omega) (fun g hg => by have := (HB.out.row g hg).1; omega)))
  clear hS hF hrow
  replace h2 : w2.cell? ⟨w.heap.size + 1 + 1, 2, none⟩ = some (.slice A2 out.length c2) := h2
  go_wp2
  go_ret
  exact ⟨A2, c2, rfl, own_base HO.out (by omega), HW.out⟩
end Go.Proofs.YtopkmcoblndokaaDoor
