/- Layer 6: texts joined: Kx Kv Kw Ky Kz Kza Kzb Kzc Ma. -/
import Derived.Test.YtkhalapppkhopaaDoorNJv
import Derived.Test.YtkhalapppkhopaaDoorNJw
/- Layer 5: the program's finish, at any node. -/
namespace Go.Proofs.YtkhalapppkhopaaDoor
open Go.RowKit Go.Proofs.Ws Go.Maps
/-- a node whose fields are in their ranges, with numbers of operands below 1000 -/
structure NdR (n : Nd) : Prop where
  op : 0 ≤ n.op ∧ n.op < 1000
  i : 0 ≤ n.i ∧ n.i < 1000
  e : 0 ≤ n.e ∧ n.e < 1000
  g : 0 ≤ n.g ∧ n.g < 1000
theorem NdR.wide {n : Nd} (h : NdR n) (hx : 0 ≤ n.x ∧ n.x ≤ 1000) (hy : 0 ≤ n.y ∧ n.y ≤ 1000) : NdW n :=
  ⟨WalkArith.wf_i64 (by have := h.op; omega), WalkArith.wf_i64 (by have := h.i; omega), WalkArith.wf_i64 (by have := h.e; omega), WalkArith.wf_i64 (by have := h.g; omega), WalkArith.wf_i64 (by omega), WalkArith.wf_i64 (by omega)⟩
theorem NdR.withX {m : Nd} (h : NdR m) {x : Nat} (hx : x ≤ 1000) (hy : m.y = 0) : NdW { m with x := (x : Int) } := by
  have h0 := h.op
  have h1 := h.i
  have h2 := h.e
  have h3 := h.g
  refine ⟨?_, ?_, ?_, ?_, ?_, ?_⟩
  · show (Lit.int .i64 m.op).wf = true
    exact WalkArith.wf_i64 (by omega)
  · show (Lit.int .i64 m.i).wf = true
    exact WalkArith.wf_i64 (by omega)
  · show (Lit.int .i64 m.e).wf = true
    exact WalkArith.wf_i64 (by omega)
  · show (Lit.int .i64 m.g).wf = true
    exact WalkArith.wf_i64 (by omega)
  · show (Lit.int .i64 (x : Int)).wf = true
    exact WalkArith.wf_i64 (by omega)
  · show (Lit.int .i64 m.y).wf = true
    exact WalkArith.wf_i64 (by omega)
theorem NdR.withXY {m : Nd} (h : NdR m) {x y : Nat} (hx : x ≤ 1000) (hy : y ≤ 1000) : NdW { m with x := (x : Int), y := (y : Int) } := by
  have h0 := h.op
  have h1 := h.i
  have h2 := h.e
  have h3 := h.g
  refine ⟨?_, ?_, ?_, ?_, ?_, ?_⟩
  · show (Lit.int .i64 m.op).wf = true
    exact WalkArith.wf_i64 (by omega)
  · show (Lit.int .i64 m.i).wf = true
    exact WalkArith.wf_i64 (by omega)
  · show (Lit.int .i64 m.e).wf = true
    exact WalkArith.wf_i64 (by omega)
  · show (Lit.int .i64 m.g).wf = true
    exact WalkArith.wf_i64 (by omega)
  · show (Lit.int .i64 (x : Int)).wf = true
    exact WalkArith.wf_i64 (by omega)
  · show (Lit.int .i64 (y : Int)).wf = true
    exact WalkArith.wf_i64 (by omega)
theorem shO_2 {op : Int} (h : usesY op = true) : shO op = 2 := by unfold shO; rw [if_pos h]
theorem shO_1 {op : Int} (h : usesY op = false) (hx : usesX op = true) : shO op = 1 := by unfold shO; rw [if_neg (by rw [h]; decide), if_pos hx]
theorem shO_0 {op : Int} (h : usesY op = false) (hx : usesX op = false) : shO op = 0 := by unfold shO; rw [if_neg (by rw [h]; decide), if_neg (by rw [hx]; decide)]
theorem pFinish_any (f : List Nd) (hf : opsL f) (hr : ∀ i, i < f.length → NdR (f.getD i nd0)) (A : Option Addr) (n c B base bw bp bm : Nat) (hn : n ≤ 1000) (hl : f.length = n) (hB1 : B ≤ bw) (hB2 : B ≤ bp) (hB4 : B ≤ bm) (hB3 : B ≤ base) :
    ∀ (fuel i : Nat) (s : Wk) (w : World), i < fuel → i < n → Cnt s → PW w base bw bp bm A c n s → Reads w B 6 A n (nds f) →
      Calls Tryd.prog 131 #[.pointer (some ⟨bw, 0, none⟩), .int .i64 (i : Int)] w fun e w' =>
        e = .returned (.int .i64 ((finW f fuel i s).1 : Nat)) ∧ PW w' base bw bp bm A c n (finW f fuel i s).2 ∧ Fp bw bp bm w w' := by
  intro fuel
  induction fuel with
  | zero => intro i s w h; omega
  | succ fuel ih =>
    intro i s w h hi hc hS hR
    have hsl : s.done.length = f.length := by rw [hS.len, hl]
    cases hd : s.done.getD i none with
    | some k =>
      have e0 : finW f (fuel + 1) i s = (k, s) := by unfold finW; rw [hd]
      rw [e0]
      have hk := hc.2 i k hd
      have hk2 := hc.le hS.len
      refine (pFin_old base bw bp bm c n i k A s w hi (by omega) hS hd).mono ?_
      rintro e w' ⟨rfl, rfl⟩
      exact ⟨rfl, hS, Fp.of_below (Below.refl _ _) (Nat.lt_of_lt_of_le hS.lw hS.lb)⟩
    | none =>
      have ho := hf i (by omega)
      have hri := hr i (by omega)
      have numle : ∀ (j : Nat) (t : Wk), j < fuel → j < n → Cnt t → t.done.length = n → (finW f fuel j t).1 ≤ 1000 := by
        intro j t h1 h2 h3 h4
        obtain ⟨b1, b2, _⟩ := finW_cnt hf fuel j t h1 (by omega) (by omega) h3
        have h5 := finW_done hf fuel j t h1 (by omega) (by omega)
        have h6 := b1.2 j _ h5
        have h7 := b1.le b2
        omega
      cases hux : usesX (f.getD i nd0).op with
      | false =>
        have huy : usesY (f.getD i nd0).op = false := by
          cases hq : usesY (f.getD i nd0).op
          · rfl
          · rw [usesY_X hq] at hux; cases hux
        have e1 : (f.getD i nd0).x = 0 := by have := ho.1; rw [if_neg (by rw [hux]; decide)] at this; exact this
        have e2 : (f.getD i nd0).y = 0 := by have := ho.2; rw [if_neg (by rw [huy]; decide)] at this; exact this
        have e3 : ({ f.getD i nd0 with x := (((f.getD i nd0).x.toNat : Nat) : Int), y := (((f.getD i nd0).y.toNat : Nat) : Int) } : Nd) = f.getD i nd0 := by
          rw [e1, e2]; cases hq : f.getD i nd0; rw [hq] at e1 e2; simp at e1 e2; simp [e1, e2]
        have e0 : finW f (fuel + 1) i s = ((putNd s.out (f.getD i nd0)).1, ⟨(putNd s.out (f.getD i nd0)).2, s.done.set i (some (putNd s.out (f.getD i nd0)).1)⟩) := by
          unfold finW; rw [hd]; simp only [hux, huy, Bool.false_eq_true, if_false]; rw [e3]
        rw [e0]
        exact pFin_new B base bw bp bm c n i A f s s _ _ w hi hn hS hd hR rfl hc (hri.wide (by omega) (by omega)) (fun W h1 h2 => pRen_0 B base bw bp bm c n A f s _ W h1 h2 hB3 (shO_0 huy hux))
      | true =>
        have ox := opsOk_x ho hux
        obtain ⟨a1, a2, _⟩ := finW_cnt hf fuel (f.getD i nd0).x.toNat s (by omega) (by omega) hsl hc
        have n1 := numle (f.getD i nd0).x.toNat s (by omega) (by omega) hc hS.len
        have HX : ∀ W, PW W base bw bp bm A c n s → Reads W B 6 A n (nds f) → Calls Tryd.prog 131 #[.pointer (some ⟨bw, 0, none⟩), .int .i64 (f.getD i nd0).x] W fun e W' => e = .returned (.int .i64 ((finW f fuel (f.getD i nd0).x.toNat s).1 : Int)) ∧ PW W' base bw bp bm A c n (finW f fuel (f.getD i nd0).x.toNat s).2 ∧ Fp bw bp bm W W' := fun W h1 h2 => by
          have := ih (f.getD i nd0).x.toNat s W (by omega) (by omega) hc h1 h2
          rw [Int.toNat_of_nonneg ox.1] at this
          exact this
        cases huy : usesY (f.getD i nd0).op with
        | false =>
          have e2 : (f.getD i nd0).y = 0 := by have := ho.2; rw [if_neg (by rw [huy]; decide)] at this; exact this
          have e0 : finW f (fuel + 1) i s = ((putNd (finW f fuel (f.getD i nd0).x.toNat s).2.out { f.getD i nd0 with x := ((finW f fuel (f.getD i nd0).x.toNat s).1 : Int) }).1, ⟨(putNd (finW f fuel (f.getD i nd0).x.toNat s).2.out { f.getD i nd0 with x := ((finW f fuel (f.getD i nd0).x.toNat s).1 : Int) }).2, (finW f fuel (f.getD i nd0).x.toNat s).2.done.set i (some (putNd (finW f fuel (f.getD i nd0).x.toNat s).2.out { f.getD i nd0 with x := ((finW f fuel (f.getD i nd0).x.toNat s).1 : Int) }).1)⟩) := by
            rw [finW, hd]; simp only [hux, huy, Bool.false_eq_true, if_false, if_true]
            rw [show (((f.getD i nd0).y.toNat : Nat) : Int) = (f.getD i nd0).y from by rw [e2]; rfl]
          rw [e0]
          have hw := hri.withX n1 e2
          exact pFin_new B base bw bp bm c n i A f s _ _ _ w hi hn hS hd hR rfl a1 hw (fun W h1 h2 => pRen_1 B base bw bp bm c n A f s _ _ _ W h1 h2 hB1 hB2 hB4 hB3 (shO_1 huy hux) HX)
        | true =>
          have oy := opsOk_y ho huy
          have e0 : finW f (fuel + 1) i s = ((putNd (finW f fuel (f.getD i nd0).y.toNat (finW f fuel (f.getD i nd0).x.toNat s).2).2.out { f.getD i nd0 with x := ((finW f fuel (f.getD i nd0).x.toNat s).1 : Int), y := ((finW f fuel (f.getD i nd0).y.toNat (finW f fuel (f.getD i nd0).x.toNat s).2).1 : Int) }).1, ⟨(putNd (finW f fuel (f.getD i nd0).y.toNat (finW f fuel (f.getD i nd0).x.toNat s).2).2.out { f.getD i nd0 with x := ((finW f fuel (f.getD i nd0).x.toNat s).1 : Int), y := ((finW f fuel (f.getD i nd0).y.toNat (finW f fuel (f.getD i nd0).x.toNat s).2).1 : Int) }).2, (finW f fuel (f.getD i nd0).y.toNat (finW f fuel (f.getD i nd0).x.toNat s).2).2.done.set i (some (putNd (finW f fuel (f.getD i nd0).y.toNat (finW f fuel (f.getD i nd0).x.toNat s).2).2.out { f.getD i nd0 with x := ((finW f fuel (f.getD i nd0).x.toNat s).1 : Int), y := ((finW f fuel (f.getD i nd0).y.toNat (finW f fuel (f.getD i nd0).x.toNat s).2).1 : Int) }).1)⟩) := by
            rw [finW, hd]; simp only [hux, huy, if_true]
          rw [e0]
          generalize finW f fuel (f.getD i nd0).x.toNat s = r1 at *
          obtain ⟨b1, b2, _⟩ := finW_cnt hf fuel (f.getD i nd0).y.toNat r1.2 (by omega) (by omega) a2 a1
          have n2 := numle (f.getD i nd0).y.toNat r1.2 (by omega) (by omega) a1 (by omega)
          have HY : ∀ W, PW W base bw bp bm A c n r1.2 → Reads W B 6 A n (nds f) → Calls Tryd.prog 131 #[.pointer (some ⟨bw, 0, none⟩), .int .i64 (f.getD i nd0).y] W fun e W' => e = .returned (.int .i64 ((finW f fuel (f.getD i nd0).y.toNat r1.2).1 : Int)) ∧ PW W' base bw bp bm A c n (finW f fuel (f.getD i nd0).y.toNat r1.2).2 ∧ Fp bw bp bm W W' := fun W h1 h2 => by
            have := ih (f.getD i nd0).y.toNat r1.2 W (by omega) (by omega) a1 h1 h2
            rw [Int.toNat_of_nonneg oy.1] at this
            exact this
          generalize finW f fuel (f.getD i nd0).y.toNat r1.2 = r2 at *
          have hw := hri.withXY n1 n2
          exact pFin_new B base bw bp bm c n i A f s r2.2 _ _ w hi hn hS hd hR rfl b1 hw (fun W h1 h2 => pRen_2 B base bw bp bm c n A f s r1.2 r2.2 r1.1 r2.1 _ W h1 h2 hB1 hB2 hB4 hB3 (shO_2 huy) HX HY)
end Go.Proofs.YtkhalapppkhopaaDoor
/- Layer 5: the program's canonical list. -/
namespace Go.Proofs.YtkhalapppkhopaaDoor
open Go.RowKit Go.Proofs.Ws Go.Maps
theorem own_baseK {w : World} {b b2 size n : Nat} {e : TypeId} {v : Value} {xs : List Value} (h : w.ownsRow b e size v n xs) (hb : b2 ≤ b) : w.ownsRow b2 e size v n xs := by
  refine ⟨h.1, ?_⟩
  rcases h.2 with hn | ⟨g, cap, cur, hv, h2, rest⟩
  · exact .inl hn
  · exact .inr ⟨g, cap, cur, hv, by omega, rest⟩
theorem Tryd.infoIK : (Tryd.prog.info? 3).map (fun i => (i.zero, i.size, i.bytes)) = some (some (.int .i64 0), 1, 8) := by kernel_rfl
def zeros (n : Nat) : Array Value := (List.replicate n (Value.int .i64 0)).toArray
theorem made_zeros (n : Nat) : madeCells (Value.int IntKind.i64 0).cells n = zeros n := by
  apply Array.ext
  · simp [madeCells, zeros]
  · intro i h1 h2
    simp [madeCells, zeros, Value.cells, Nat.mod_one]
theorem makeI (w : World) (n : Nat) (hn : n ≤ 1000000) : (Instr.makeSlice 36 (.int .i64 (n : Int)) (.int .i64 (n : Int))).run Tryd.prog w = .ok (.slice (some ⟨w.heap.size, 0, none⟩) n n) (w.alloc (.cells (zeros n) 3)) := by
  obtain ⟨i0, hi, hz0, hz1, hz2⟩ := info_parts Tryd.infoIK
  have h := run_make (P := Tryd.prog) w 36 3 i0 (.int .i64 0) Tryd.underlying36 hi hz0 .i64 .i64 n n (by omega) (Int.le_refl _) (by rw [hz2]; omega) (by omega)
  rw [h, hz1]
  simp only [Int.toNat_natCast, Nat.mul_one]
  rw [made_zeros]
theorem zeros_at {W : World} {g n : Nat} (h : W.heap[g]? = some (.cells (zeros n) 3 (0, 0))) {j : Nat} (hj : j < n) : W.cell? ⟨g, j, none⟩ = some (.int .i64 0) := by
  rw [Lib.cell_of_heap h]
  simp [zeros, hj]
/-- what the list of a walk must be -/
structure OkL (f : List Nd) : Prop where
  ne : f ≠ []
  ops : opsL f
  rng : ∀ i, i < f.length → NdR (f.getD i nd0)
theorem replicate_none (n j : Nat) : (List.replicate n (none : Option Nat)).getD j none = none := by
  rw [List.getD_eq_getElem?_getD, List.getElem?_replicate]
  split <;> rfl
theorem cnt0 (n : Nat) : Cnt ⟨[], List.replicate n none⟩ :=
  ⟨Nat.zero_le _, fun j k h => by rw [show (Wk.mk [] (List.replicate n none)).done = List.replicate n none from rfl, replicate_none] at h; cases h⟩
theorem PW.begin {w : World} {A : Option Addr} {n c : Nat} (t : TypeId) : PW (((w.alloc (.cells (zeros n) 3)).alloc (.map #[] 0)).alloc (.cells #[.slice A n c, .slice (some ⟨w.heap.size, 0, none⟩) n n, .slice none 0 0, .map (some (w.heap.size + 1))] t)) (w.heap.size + 3) (w.heap.size + 2) w.heap.size (w.heap.size + 1) A c n ⟨[], List.replicate n none⟩ := by
  have h0 : (w.alloc (.cells (zeros n) 3)).heap[w.heap.size]? = some (.cells (zeros n) 3 (0, 0)) := heap_alloc_new w _
  have s1 : (w.alloc (.cells (zeros n) 3)).heap.size = w.heap.size + 1 := by simp
  have hmap := World.ownsMap_made (w.alloc (.cells (zeros n) 3)) Tryd.prog 86 (plainElem (H := Unit) Tryd.prog 3)
  generalize w.alloc (.cells (zeros n) 3) = wa at *
  have s2 : (wa.alloc (.map #[] 0)).heap.size = w.heap.size + 2 := by simp; omega
  have h1 : (wa.alloc (.map #[] 0)).heap[w.heap.size]? = some (.cells (zeros n) 3 (0, 0)) := (Below.heap_alloc wa _ _ (by omega)).trans h0
  rw [s1] at hmap
  generalize wa.alloc (.map #[] 0) = wb at *
  have hbx := heap_alloc_new wb (.cells #[.slice A n c, .slice (some ⟨w.heap.size, 0, none⟩) n n, .slice none 0 0, .map (some (w.heap.size + 1))] t)
  rw [s2] at hbx
  have hm := ownsMap_keep hmap (Below.heap_alloc wb (.cells #[.slice A n c, .slice (some ⟨w.heap.size, 0, none⟩) n n, .slice none 0 0, .map (some (w.heap.size + 1))] t) _ (by omega))
  have h2 : (wb.alloc (.cells #[.slice A n c, .slice (some ⟨w.heap.size, 0, none⟩) n n, .slice none 0 0, .map (some (w.heap.size + 1))] t)).heap[w.heap.size]? = _ := (Below.heap_alloc wb _ _ (by omega)).trans h1
  have s3 : (wb.alloc (.cells #[.slice A n c, .slice (some ⟨w.heap.size, 0, none⟩) n n, .slice none 0 0, .map (some (w.heap.size + 1))] t)).heap.size = w.heap.size + 3 := by simp; omega
  generalize wb.alloc (.cells #[.slice A n c, .slice (some ⟨w.heap.size, 0, none⟩) n n, .slice none 0 0, .map (some (w.heap.size + 1))] t) = wc at *
  have hc := Lib.cell_of_heap hbx
  refine ⟨by omega, by omega, by omega, by omega, by omega, by omega, by omega, hc 0, hc 1, ⟨none, 0, hc 2, World.ownsRow_nil _ _ _ _⟩, Lib.frozen_of_heap hbx 2, hc 3, ⟨_, hm, MapOf.start⟩, by simp, fun j hj => ?_, fun j _ => Lib.frozen_of_heap h2 j⟩
  show _ = some (plV ((List.replicate n none).getD j none))
  rw [replicate_none]
  exact zeros_at h2 hj
set_option maxRecDepth 100000 in
set_option maxHeartbeats 4000000 in
theorem pCanon_own (f : List Nd) (hf : OkL f) (A : Option Addr) (n c : Nat) (w : World) (hR : Reads w w.heap.size 6 A n (nds f)) (hn : n ≤ 1000) :
    Calls Tryd.prog 113 #[.slice A n c] w fun e w' => ∃ A' c', e = .returned (.slice A' (canonF f).length c') ∧ w'.ownsRow w.heap.size 86 6 (.slice A' (canonF f).length c') (canonF f).length (nds (canonF f)) ∧ Below w.heap.size w w' := by
  have hl := hR.nd_len
  have hne : f.length ≠ 0 := by simpa using hf.ne
  have HR := Lib.hid hR
  have hmk := fun W => makeI W n (by omega)
  have hmm := @run_makeMap Tryd.prog
  have HFIN : Hid (∀ W, PW W (w.heap.size + 3) (w.heap.size + 2) w.heap.size (w.heap.size + 1) A c n ⟨[], List.replicate n none⟩ → Reads W w.heap.size 6 A n (nds f) →
      Calls Tryd.prog 131 #[.pointer (some ⟨w.heap.size + 1 + 1, 0, none⟩), .int .i64 ((n : Int) - 1)] W fun e W' =>
        e = .returned (.int .i64 ((finW f n (n - 1) ⟨[], List.replicate n none⟩).1 : Nat)) ∧ PW W' (w.heap.size + 3) (w.heap.size + 2) w.heap.size (w.heap.size + 1) A c n (finW f n (n - 1) ⟨[], List.replicate n none⟩).2 ∧ Fp (w.heap.size + 2) w.heap.size (w.heap.size + 1) W W') :=
    Lib.hid (fun W h1 h2 => by
      rw [show (n : Int) - 1 = ((n - 1 : Nat) : Int) from by omega]
      exact pFinish_any f hf.ops hf.rng A n c w.heap.size (w.heap.size + 3) (w.heap.size + 2) w.heap.size (w.heap.size + 1) hn hl (by omega) (by omega) (by omega) (by omega) n (n - 1) _ W (by omega) (by omega) (cnt0 n) h1 h2)
  have HE : Hid ((finW f n (n - 1) ⟨[], List.replicate n none⟩).2.out = canonF f) := Lib.hid (by unfold canonF; rw [hl])
  generalize finW f n (n - 1) ⟨[], List.replicate n none⟩ = r at *
  generalize canonF f = q at *
  obtain ⟨r1, out, done⟩ := r
  have HE2 : out = q := HE.out
  subst HE2
  clear HE
  have HB := PW.begin (w := w) (A := A) (n := n) (c := c) 128
  have HBL : Hid (Below w.heap.size w (((w.alloc (.cells (zeros n) 3)).alloc (.map #[] 0)).alloc (.cells #[.slice A n c, .slice (some ⟨w.heap.size, 0, none⟩) n n, .slice none 0 0, .map (some (w.heap.size + 1))] 128))) := Lib.hid ((((Below.refl _ w).alloc (Nat.le_refl _) _).alloc (by simp) _).alloc (by simp; omega) _)
  replace HB := Lib.hid HB
  clear hR hne hf
  go_enter Tryd.func113, Tryd.ntmps113
  go_wp2_with fail
  clear hmk hmm
  generalize ((w.alloc (.cells (zeros n) 3)).alloc (.map #[] 0)).alloc (.cells #[.slice A n c, .slice (some ⟨w.heap.size, 0, none⟩) n n, .slice none 0 0, .map (some (w.heap.size + 1))] 128) = w1 at *
  refine (HFIN.out _ HB.out (HR.out.below HBL.out)).mono ?_
  rintro e w2 ⟨rfl, hS, hF⟩
  obtain ⟨A2, c2, h2, hrow⟩ := hS.out
  have HO := Lib.hid hrow
  have HW := Lib.hid (HBL.out.trans (hF.low (B := w.heap.size) HBL.out.size (by omega) (by omega) (by omega) (fun g hg => by have := (HB.out.row g hg).1; omega)))
  clear hS hF hrow
  replace h2 : w2.cell? ⟨w.heap.size + 1 + 1, 2, none⟩ = some (.slice A2 out.length c2) := h2
  go_wp2
  go_ret
  exact ⟨A2, c2, rfl, own_baseK HO.out (by omega), HW.out⟩
theorem pCanon_any (f : List Nd) (hf : OkL f) (A : Option Addr) (n c : Nat) (w : World) (hR : Reads w w.heap.size 6 A n (nds f)) (hn : n ≤ 1000) :
    Calls Tryd.prog 113 #[.slice A n c] w fun e w' => ∃ A' c', e = .returned (.slice A' (canonF f).length c') ∧ Reads w' w'.heap.size 6 A' (canonF f).length (nds (canonF f)) ∧ Below w.heap.size w w' :=
  (pCanon_own f hf A n c w hR hn).mono (by
    rintro e w' ⟨A', c', rfl, h1, h2⟩
    exact ⟨A', c', rfl, Reads.of_own h1, h2⟩)
end Go.Proofs.YtkhalapppkhopaaDoor
/- Layer 5: what a checked list is, and the reference's Sub. -/
namespace Go.Proofs.Ws
open Go
theorem errFrom_all (l : List Nd) : ∀ (m k : Nat), l.length - k ≤ m → errFrom k (l.drop k) = 0 → ∀ j, k ≤ j → j < l.length → nodeErr (l.getD j nd0) (j : Int) = 0 := by
  intro m
  induction m with
  | zero => intro k h _ j h1 h2; omega
  | succ m ih =>
    intro k h he j h1 h2
    have hk : k < l.length := by omega
    rw [List.drop_eq_getElem_cons hk] at he
    have he2 : (if nodeErr l[k] (k : Int) ≠ 0 then nodeErr l[k] (k : Int) else errFrom (k + 1) (l.drop (k + 1))) = 0 := he
    have hg : l.getD k nd0 = l[k] := by simp [hk]
    by_cases hz : nodeErr l[k] (k : Int) = 0
    · rw [if_neg (by simpa using hz)] at he2
      by_cases e : j = k
      · subst e; rw [hg]; exact hz
      · exact ih (k + 1) (by omega) he2 j (by omega) h2
    · rw [if_pos hz] at he2; exact absurd he2 hz
theorem nodeErr_ok {n : Nd} {k : Int} (h : nodeErr n k = 0) : known n.op = true ∧ formOk n k = true ∧ rangeOk n = true := by
  unfold nodeErr at h
  cases h1 : known n.op
  · rw [h1] at h; simp at h
  · cases h2 : formOk n k
    · rw [h1, h2] at h; simp at h
    · cases h3 : rangeOk n
      · rw [h1, h2, h3] at h; simp at h
      · exact ⟨rfl, rfl, rfl⟩
theorem formOk_ops {n : Nd} {k : Nat} (h : formOk n (k : Int) = true) : opsOk n k := by
  unfold formOk at h
  simp only [Bool.and_eq_true] at h
  obtain ⟨⟨⟨⟨hx, hy⟩, _⟩, _⟩, _⟩ := h
  refine ⟨?_, ?_⟩
  · by_cases hu : usesX n.op = true
    · rw [if_pos hu] at hx ⊢
      simp only [Bool.and_eq_true, decide_eq_true_eq] at hx
      exact hx
    · rw [if_neg hu] at hx ⊢
      exact of_decide_eq_true hx
  · by_cases hu : usesY n.op = true
    · rw [if_pos hu] at hy ⊢
      simp only [Bool.and_eq_true, decide_eq_true_eq] at hy
      exact hy
    · rw [if_neg hu] at hy ⊢
      exact of_decide_eq_true hy
theorem fErr_ok {l : List Nd} (h : fErr l = 0) : l ≠ [] ∧ l.length ≤ 200 ∧ ∀ j, j < l.length → nodeErr (l.getD j nd0) (j : Int) = 0 := by
  unfold fErr at h
  split at h
  · cases h
  · split at h
    · cases h
    · rename_i h1 h2
      refine ⟨by intro e; rw [e] at h1; simp at h1, by omega, fun j hj => errFrom_all l l.length 0 (by omega) h j (Nat.zero_le _) hj⟩
theorem fErr_ops {l : List Nd} (h : fErr l = 0) : opsL l := fun i hi => formOk_ops (nodeErr_ok ((fErr_ok h).2.2 i hi)).2.1
end Go.Proofs.Ws
namespace Go.Proofs.YtkhalapppkhopaaDoor
open Go.RowKit Go.Proofs.Ws
theorem Tryd.infoIR : (Tryd.prog.info? 3).map (fun i => (i.zero, i.size, i.bytes)) = some (some (.int .i64 0), 1, 8) := by kernel_rfl
/-- the walk of the reference, while its numbers are laid -/
structure LD (w W : World) (bw k : Nat) : Prop where
  o0 : W.cell? ⟨bw, 0, none⟩ = some (.slice none 0 0)
  f0 : W.frozen? ⟨bw, 0, none⟩ = false
  f1 : W.frozen? ⟨bw, 1, none⟩ = false
  row : ∃ A c, W.cell? ⟨bw, 1, none⟩ = some (.slice A k c) ∧ W.ownsRow (bw + 1) 3 1 (.slice A k c) k (List.replicate k (.int .i64 (-1)))
  lt : bw < W.heap.size
  l0 : w.heap.size ≤ bw
  be : Below w.heap.size w W
theorem LD.start (w w1 : World) (t : TypeId) (hb : Below w.heap.size w w1) : LD w (w1.alloc (.cells #[.slice none 0 0, .slice none 0 0] t)) w1.heap.size 0 := by
  have hh := heap_alloc_new w1 (.cells #[.slice none 0 0, .slice none 0 0] t)
  have hc := Lib.cell_of_heap hh
  exact ⟨hc 0, Lib.frozen_of_heap hh 0, Lib.frozen_of_heap hh 1, ⟨none, 0, hc 1, World.ownsRow_nil _ _ _ _⟩, by simp, hb.size, hb.alloc hb.size _⟩
theorem LD.step {w W w3 : World} {bw k : Nat} {A A' : Option Addr} {c c' : Nat} {o : Obj} (h : LD w W bw k) (hc : W.cell? ⟨bw, 1, none⟩ = some (.slice A k c)) (hlt : ∀ g, (Value.slice A k c).ownBlock = some g → bw + 1 ≤ g)
    (ho : w3.ownsRow (bw + 1) 3 1 (.slice A' (k + 1) c') (k + 1) (List.replicate k (.int .i64 (-1)) ++ [.int .i64 (-1)])) (hg : (W.alloc o).grownBy w3 (Value.slice A k c).ownBlock) :
    LD w (w3.setCell ⟨bw, 1, none⟩ (.slice A' (k + 1) c')) bw (k + 1) := by
  have hlt1 := h.lt
  have l0 := h.l0
  have hsz : (W.alloc o).heap.size = W.heap.size + 1 := by simp
  have hbw : w3.heap[bw]? = W.heap[bw]? := (hg.block bw (by omega) (fun e => by have := hlt bw e.symm; omega)).trans (Below.heap_alloc W o bw hlt1)
  have e := fun j => World.cell?_of_block (a := ⟨bw, j, none⟩) hbw
  have ef := fun j => World.frozen?_of_block (a := ⟨bw, j, none⟩) hbw
  have hrep : List.replicate (k + 1) (Value.int .i64 (-1)) = List.replicate k (.int .i64 (-1)) ++ [.int .i64 (-1)] := List.replicate_succ'
  refine ⟨?_, ?_, ?_, ⟨A', c', World.cell?_setCell_same w3 _ _ ((e 1).trans hc), ?_⟩, ?_, l0, ?_⟩
  · rw [World.cell?_setCell_other w3 ⟨bw, 1, none⟩ ⟨bw, 0, none⟩ _ (by simp)]; exact (e 0).trans h.o0
  · rw [World.frozen?_setCell]; exact (ef 0).trans h.f0
  · rw [World.frozen?_setCell]; exact (ef 1).trans h.f1
  · rw [hrep]; exact ownsRow_setCell_below ho (by show bw < bw + 1; omega) _
  · have := hg.size; simp; omega
  · have hb : Below w.heap.size w w3 := (h.be.alloc h.be.size o).grown hg (by have := h.be.size; omega) (fun g hg2 => by have := hlt g hg2; omega)
    exact hb.setCell (by show w.heap.size ≤ bw; exact l0) _
end Go.Proofs.YtkhalapppkhopaaDoor
/- Layer 5: Compact, Sub, Size on both sides, Equal. -/
namespace Go.Proofs.YtkhalapppkhopaaDoor
open Go.RowKit Go.Proofs.Ws Go.Maps
theorem NdR_of {n : Nd} {k : Int} (h : nodeErr n k = 0) : NdR n := by
  obtain ⟨h1, h2, h3⟩ := nodeErr_ok h
  have hop : 1 ≤ n.op ∧ n.op ≤ 21 := by
    unfold known at h1
    simp only [Bool.and_eq_true, decide_eq_true_eq] at h1
    exact h1
  unfold formOk at h2
  unfold rangeOk shN shE shG at h3
  simp only [Bool.and_eq_true, Bool.or_eq_true, decide_eq_true_eq, beq_iff_eq] at h2 h3
  obtain ⟨⟨⟨⟨_, _⟩, hi⟩, he⟩, hg⟩ := h2
  obtain ⟨⟨ri, re⟩, rg⟩ := h3
  refine ⟨by omega, ?_, ?_, ?_⟩
  · by_cases a : n.op = 3
    · rw [if_pos a] at ri; omega
    · rw [if_neg a] at ri
      by_cases b : hasAgent n.op = true
      · rw [if_pos b] at ri; omega
      · rw [if_neg b] at ri
        by_cases c : n.op = 17
        · rw [if_pos c] at ri; omega
        · rcases hi with ((h | h) | h) | h
          · exact absurd h a
          · exact absurd h b
          · exact absurd h c
          · omega
  · by_cases c : n.op = 17
    · rw [if_pos c] at re; omega
    · rcases he with h | h
      · exact absurd h c
      · omega
  · by_cases c : hasGroup n.op = true
    · rw [if_pos c] at rg; omega
    · rcases hg with h | h
      · exact absurd h c
      · omega
theorem OkL_of {f : List Nd} (h : fErr f = 0) : OkL f := ⟨(fErr_ok h).1, fErr_ops h, fun i hi => NdR_of ((fErr_ok h).2.2 i hi)⟩
theorem OkL.take {f : List Nd} (h : OkL f) {i : Nat} (hi : i < f.length) : OkL (f.take (i + 1)) := by
  have hl : (f.take (i + 1)).length = i + 1 := by rw [List.length_take]; omega
  refine ⟨by intro e; rw [e] at hl; simp at hl, opsL_take h.ops _, fun j hj => ?_⟩
  rw [take_getD (by omega)]
  exact h.rng j (by omega)
set_option maxRecDepth 100000 in
theorem pCompact_own (f : List Nd) (A : Option Addr) (n c : Nat) (w : World) (hR : Reads w w.heap.size 6 A n (nds f)) (hm : n ≤ maxLen) :
    Calls Tryd.prog 114 #[.slice A n c] w fun e w' => ∃ A' c', e = .returned (.slice A' (compF f).length c') ∧ w'.ownsRow w.heap.size 86 6 (.slice A' (compF f).length c') (compF f).length (nds (compF f)) ∧ Below w.heap.size w w' := by
  have hl := hR.nd_len
  have HV := Lib.hid (pValid_any f A n c w hR hm)
  have HR := Lib.hid hR
  by_cases hz : fErr f = 0
  · have h200 := (fErr_ok hz).2.1
    have HC : Hid (∀ W, Reads W W.heap.size 6 A n (nds f) → Calls Tryd.prog 113 #[.slice A n c] W fun e w' => ∃ A' c', e = .returned (.slice A' (canonF f).length c') ∧ w'.ownsRow W.heap.size 86 6 (.slice A' (canonF f).length c') (canonF f).length (nds (canonF f)) ∧ Below W.heap.size W w') :=
      Lib.hid (fun W h => pCanon_own f (OkL_of hz) A n c W h (by omega))
    have e1 : compF f = canonF f := by unfold compF; rw [if_pos hz]
    rw [e1]
    rw [hz] at HV
    generalize canonF f = q at *
    clear hR hl hz h200 e1
    go_enter Tryd.func114, Tryd.ntmps114
    go_wp2_with fail
    refine (HV.out).mono ?_
    rintro e w1 ⟨rfl, hb⟩
    have HB := Lib.hid hb
    have hR1 := (HR.out.below hb).more hb.size
    clear hb
    go_wp2_with fail
    refine (HC.out w1 hR1).mono ?_
    rintro e w2 ⟨A', c', rfl, hR2, hb2⟩
    have HR2 := Lib.hid (own_baseK hR2 HB.out.size)
    have HB2 := Lib.hid (HB.out.trans (hb2.mono HB.out.size))
    clear hR2 hb2 hR1
    go_wp2
    go_ret
    exact ⟨A', c', rfl, HR2.out, HB2.out⟩
  · have e1 : compF f = [] := by unfold compF; rw [if_neg hz]
    have hzb : (fErr f == 0) = false := by simpa using hz
    rw [e1]
    rw [hzb] at HV
    clear hR hl hz e1 hzb
    go_enter Tryd.func114, Tryd.ntmps114
    go_wp2_with fail
    refine (HV.out).mono ?_
    rintro e w1 ⟨rfl, hb⟩
    have HB := Lib.hid hb
    clear hb
    go_wp2
    go_ret
    exact ⟨none, 0, rfl, World.ownsRow_nil _ _ _ _, HB.out⟩
theorem pCompact_any (f : List Nd) (A : Option Addr) (n c : Nat) (w : World) (hR : Reads w w.heap.size 6 A n (nds f)) (hm : n ≤ maxLen) :
    Calls Tryd.prog 114 #[.slice A n c] w fun e w' => ∃ A' c', e = .returned (.slice A' (compF f).length c') ∧ Reads w' w'.heap.size 6 A' (compF f).length (nds (compF f)) ∧ Below w.heap.size w w' :=
  (pCompact_own f A n c w hR hm).mono (by
    rintro e w' ⟨A', c', rfl, h1, h2⟩
    exact ⟨A', c', rfl, Reads.of_own h1, h2⟩)
end Go.Proofs.YtkhalapppkhopaaDoor
/- Layer 5: cmp of integers, of nodes, of lists, by the program. -/
namespace Go.Proofs.Ws
open Go
end Go.Proofs.Ws
namespace Go.Proofs.YtkhalapppkhopaaDoor
open Go.RowKit Go.Proofs.Ws Go.Maps
theorem finW_out_le {f : List Nd} (hf : opsL f) (i : Nat) (hi : i < f.length) : (canT (treeAt f i)).length ≤ f.length := by
  obtain ⟨h1, h2, _⟩ := finW_cnt hf (i + 1) i ⟨[], List.replicate f.length none⟩ (by omega) hi (by simp) (cnt0 f.length)
  rw [← walk_tree hf (Nat.lt_succ_self i) hi]
  exact h1.le h2
theorem compF_le (f : List Nd) : (compF f).length ≤ f.length := by
  unfold compF
  split
  · rename_i h
    have hne : f.length ≠ 0 := by simpa using (fErr_ok h).1
    rw [canonF_tree (fErr_ops h) (fErr_ok h).1]
    exact finW_out_le (fErr_ops h) _ (by omega)
  · exact Nat.zero_le _
def is (l : List Int) : List Value := l.map (Value.int .i64)
end Go.Proofs.YtkhalapppkhopaaDoor
/- Layer 5: two nodes compared by the program. -/
namespace Go.Proofs.YtkhalapppkhopaaDoor
open Go.RowKit Go.Proofs.Ws Go.Maps
end Go.Proofs.YtkhalapppkhopaaDoor
/- Layer 5: Same and Compare of the program. -/
namespace Go.Proofs.YtkhalapppkhopaaDoor
open Go.RowKit Go.Proofs.Ws Go.Maps
end Go.Proofs.YtkhalapppkhopaaDoor
/- Layer 5: Same and Compare of the reference. -/
namespace Go.Proofs.Ws
open Go
end Go.Proofs.Ws
namespace Go.Proofs.YtkhalapppkhopaaDoor
open Go.RowKit Go.Proofs.Ws Go.Maps
end Go.Proofs.YtkhalapppkhopaaDoor
/- Layer 5: the canonical list of a formula is a formula. -/
namespace Go.Proofs.Ws
open Go
/-- the fields of a node that do not depend on its place -/
def fldOk (n : Nd) : Prop := known n.op = true ∧ ((n.op = 3 ∨ hasAgent n.op = true ∨ n.op = 17 ∨ n.i = 0) ∧ (n.op = 17 ∨ n.e = 0) ∧ (hasGroup n.op = true ∨ n.g = 0)) ∧ rangeOk n = true
theorem formOk_iff (n : Nd) (k : Nat) : formOk n (k : Int) = true ↔ opsOk n k ∧ ((n.op = 3 ∨ hasAgent n.op = true ∨ n.op = 17 ∨ n.i = 0) ∧ (n.op = 17 ∨ n.e = 0) ∧ (hasGroup n.op = true ∨ n.g = 0)) := by
  unfold formOk opsOk
  simp only [Bool.and_eq_true, Bool.or_eq_true, decide_eq_true_eq]
  by_cases hx : usesX n.op = true <;> by_cases hy : usesY n.op = true <;> simp [hx, hy, and_assoc, or_assoc]
theorem nodeErr_iff (n : Nd) (k : Nat) : nodeErr n (k : Int) = 0 ↔ opsOk n k ∧ fldOk n := by
  constructor
  · intro h
    obtain ⟨h1, h2, h3⟩ := nodeErr_ok h
    obtain ⟨h4, h5⟩ := (formOk_iff n k).1 h2
    exact ⟨h4, h1, h5, h3⟩
  · rintro ⟨h4, h1, h5, h3⟩
    have h2 := (formOk_iff n k).2 ⟨h4, h5⟩
    unfold nodeErr
    rw [h1, h2, h3]; rfl
theorem errFrom_zero (l : List Nd) : ∀ (m k : Nat), l.length - k ≤ m → (∀ j, k ≤ j → j < l.length → nodeErr (l.getD j nd0) (j : Int) = 0) → errFrom k (l.drop k) = 0 := by
  intro m
  induction m with
  | zero => intro k h _; rw [List.drop_of_length_le (by omega)]; rfl
  | succ m ih =>
    intro k h he
    by_cases hk : k < l.length
    · rw [List.drop_eq_getElem_cons hk]
      have hg : l.getD k nd0 = l[k] := by simp [hk]
      have h0 := he k (Nat.le_refl _) hk
      rw [hg] at h0
      show (if nodeErr l[k] (k : Int) ≠ 0 then nodeErr l[k] (k : Int) else errFrom (k + 1) (l.drop (k + 1))) = 0
      rw [h0, if_neg (by simp)]
      exact ih (k + 1) (by omega) (fun j h1 h2 => he j (by omega) h2)
    · rw [List.drop_of_length_le (by omega)]; rfl
theorem fErr_zero {l : List Nd} (hne : l ≠ []) (hl : l.length ≤ 200) (h : ∀ j, j < l.length → opsOk (l.getD j nd0) j ∧ fldOk (l.getD j nd0)) : fErr l = 0 := by
  have h0 : l.length ≠ 0 := by simpa using hne
  unfold fErr
  rw [if_neg h0, if_neg (by omega)]
  have := errFrom_zero l l.length 0 (by omega) (fun j _ hj => (nodeErr_iff _ j).2 (h j hj))
  simpa using this
theorem fErr_fld {l : List Nd} (h : fErr l = 0) : ∀ n ∈ l, fldOk n := by
  intro n hn
  obtain ⟨j, hj, hj2⟩ := List.getElem_of_mem hn
  have := (nodeErr_iff _ j).1 ((fErr_ok h).2.2 j hj)
  rw [show l.getD j nd0 = n from by simp [hj, hj2]] at this
  exact this.2
theorem getD_mem {l : List Nd} {j : Nat} (h : j < l.length) : l.getD j nd0 ∈ l := by
  rw [show l.getD j nd0 = l[j] from by simp [h]]; exact List.getElem_mem h
theorem canT_fld {f : List Nd} (hf : opsL f) (hF : ∀ n ∈ f, fldOk n) {i : Nat} (hi : i < f.length) : ∀ n ∈ canT (treeAt f i), fldOk n :=
  finT_all (P := fldOk) (treeAt f i) (treeAt_ok hf (i + 1) i (by omega) hi) (treeAt_all hf (fun n hn => hF n hn) (i + 1) i (by omega) hi) (fun n hn => absurd hn (by simp))
theorem finT_ne (t : Tr) (o : List Nd) : (finT t o).2 ≠ [] := fun e => by have := finT_lt t o; rw [e] at this; simp at this
theorem canT_ok {f : List Nd} (hf : opsL f) (hF : ∀ n ∈ f, fldOk n) {i : Nat} (hi : i < f.length) (hl : (canT (treeAt f i)).length ≤ 200) : fErr (canT (treeAt f i)) = 0 :=
  fErr_zero (finT_ne _ _) hl (fun _ hj => ⟨canT_ops (treeAt_ok hf (i + 1) i (by omega) hi) _ hj, canT_fld hf hF hi _ (getD_mem hj)⟩)
theorem compF_tree {f : List Nd} (h : fErr f = 0) : compF f = canT (treeAt f (f.length - 1)) := by
  unfold compF; rw [if_pos h, canonF_tree (fErr_ops h) (fErr_ok h).1]
end Go.Proofs.Ws
namespace Go.Proofs.YtkhalapppkhopaaDoor
open Go.RowKit Go.Proofs.Ws Go.Maps
theorem compF_ok {f : List Nd} (h : fErr f = 0) : fErr (compF f) = 0 := by
  have hne : f.length ≠ 0 := by simpa using (fErr_ok h).1
  have hl := compF_le f
  have h2 := (fErr_ok h).2.1
  rw [compF_tree h] at hl ⊢
  exact canT_ok (fErr_ops h) (fErr_fld h) (by omega) (by omega)
theorem compF_fld (f : List Nd) : ∀ n ∈ compF f, fldOk n := by
  by_cases h : fErr f = 0
  · exact fErr_fld (compF_ok h)
  · unfold compF; rw [if_neg h]; intro n hn; simp at hn
/-- a list of lists of nodes -/
structure LL (W : World) (base : Nat) (v : Value) (ls : List (List Nd)) : Prop where
  row : ∃ vs, W.ownsRow base 53 1 v ls.length vs ∧ ∀ j, j < ls.length → ∃ A c, vs[j]? = some (.slice A (ls.getD j []).length c) ∧ W.ownsRow 0 86 6 (.slice A (ls.getD j []).length c) (ls.getD j []).length (nds (ls.getD j []))
theorem LL.nil (W : World) (base : Nat) : LL W base (.slice none 0 0) [] := ⟨[], World.ownsRow_nil _ _ _ _, fun j hj => absurd hj (by simp)⟩
theorem LL.below {W W' : World} {base : Nat} {v : Value} {ls : List (List Nd)} (h : LL W base v ls) (hb : Below W.heap.size W W') : LL W' base v ls := by
  obtain ⟨vs, h1, h2⟩ := h.row
  refine ⟨vs, own_keep1K h1 (fun g hg => hb.block g (h1.lt g hg).2), fun j hj => ?_⟩
  obtain ⟨A, c, h3, h4⟩ := h2 j hj
  exact ⟨A, c, h3, own_keep1K h4 (fun g hg => hb.block g (h4.lt g hg).2)⟩
theorem own_typeK {W : World} {b size n : Nat} {e : TypeId} {v : Value} {xs : List Value} (h : W.ownsRow b e size v n xs) {g : Nat} (hg : v.ownBlock = some g) : ∃ cur, W.heap[g]? = some (.cells cur e (0, 0)) := by
  rcases h.2 with ⟨rfl, _⟩ | ⟨g2, cap, cur, rfl, _, h2, _⟩
  · cases hg
  · have e2 : g2 = g := by injection hg
    subst e2
    exact ⟨cur, h2⟩
end Go.Proofs.YtkhalapppkhopaaDoor
