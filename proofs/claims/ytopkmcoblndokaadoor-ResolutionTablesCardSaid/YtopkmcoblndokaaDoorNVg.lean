/- Layer 6: texts joined: Kr Ks Kt. -/
import Derived.Test.YtopkmcoblndokaaDoorNVe
import Derived.Maps.OwnSet
import Derived.Maps.OwnOps
import Derived.Maps.Views
/- Layer 5: the program's walk: nodes as keys of a map, the state of the walk. -/
namespace Go.Proofs.YtopkmcoblndokaaDoor
open Go.RowKit Go.Proofs.Ws Go.Maps
theorem nodeKT : Tryd.prog.keyType 55 = true := by kernel_rfl
theorem nodeSize : Tryd.prog.types.size = (Tryd.prog.types.size - 1) + 1 := by kernel_rfl
theorem nodeLaid : laidOutB Tryd.prog = true := by kernel_rfl
theorem nodeLaw : Keyed Tryd.prog 55 :=
  Keyed.of_law (deep_law_laid nodeLaid (m := 9999) (by omega) (of_decide_eq_true (by kernel_rfl)) (by kernel_rfl) (by kernel_rfl))
theorem nodeCells : Tryd.prog.cellsOf 55 = 6 := by kernel_rfl
theorem intCells : Tryd.prog.cellsOf 3 = 1 := by kernel_rfl
/-- the fields of a node are machine integers -/
structure NdW (n : Nd) : Prop where
  op : (Lit.int .i64 n.op).wf = true
  i : (Lit.int .i64 n.i).wf = true
  e : (Lit.int .i64 n.e).wf = true
  g : (Lit.int .i64 n.g).wf = true
  x : (Lit.int .i64 n.x).wf = true
  y : (Lit.int .i64 n.y).wf = true
def keyN (n : Nd) : Lit := .string (keyBytes [.int .i64 n.op, .int .i64 n.i, .int .i64 n.e, .int .i64 n.g, .int .i64 n.x, .int .i64 n.y])
theorem key_nd {n : Nd} (h : NdW n) : keyOf Tryd.prog 55 (nv n) = some (keyN n) := by
  obtain ⟨h0, h1, h2, h3, h4, h5⟩ := h
  unfold keyOf nv
  simp only [Tryd.underlying55]
  rw [if_pos (by rw [nodeKT]; simp [Value.formed, Tryd.underlying55]; kernel_rfl), nodeSize]
  unfold Program.keyLits
  simp only [Tryd.underlying55, Value.cells]
  rw [if_pos ⟨by rw [nodeCells]; rfl, by kernel_rfl⟩, List.mapM_cons, List.mapM_cons, List.mapM_cons, List.mapM_cons, List.mapM_cons, List.mapM_cons, List.mapM_nil]
  simp [intCells, Program.keyLits, Tryd.underlying3, h0, h1, h2, h3, h4, h5, keyN]
theorem keyN_inj {n m : Nd} (hn : NdW n) (hm : NdW m) (h : keyN n = keyN m) : n = m := by
  have := nodeLaw.inj (key_nd hn) (by rw [h]; exact key_nd hm)
  unfold nv at this
  injection this with h1
  simp at h1
  obtain ⟨e0, e1, e2, e3, e4, e5⟩ := h1
  cases n; cases m; simp at e0 e1 e2 e3 e4 e5; simp [e0, e1, e2, e3, e4, e5]
/-- the map gives each node of the list its number -/
structure MapOf (out : List Nd) (D : DataW Unit) : Prop where
  map : IsMap D
  wide : ∀ n ∈ out, NdW n
  there : ∀ n, NdW n → (Maps.has D (keyN n) = true ↔ n ∈ out)
  at_ : ∀ n ∈ out, D.atKey (keyN n) (.lit (.int .i64 0)) = .lit (.int .i64 (out.idxOf n : Int))
theorem MapOf.start : MapOf [] (.map []) where
  map := ⟨[], rfl⟩
  wide := fun n h => absurd h (by simp)
  there := fun n _ => ⟨fun h => by simp [Maps.has] at h, fun h => absurd h (by simp)⟩
  at_ := fun n h => absurd h (by simp)
theorem MapOf.put {out : List Nd} {D : DataW Unit} (h : MapOf out D) {n : Nd} (hn : NdW n) (hi : n ∉ out) : MapOf (out ++ [n]) (D.put (keyN n) (.lit (.int .i64 (out.length : Int)))) := by
  have hkey : WideAt.IsKeyLit (keyN n) := nodeLaw.key (key_nd hn)
  refine ⟨h.map.put _ _, fun m hm => ?_, fun m hm => ?_, fun m hm => ?_⟩
  · rcases List.mem_append.1 hm with hm | hm
    · exact h.wide m hm
    · rw [List.mem_singleton.1 hm]; exact hn
  · by_cases e : m = n
    · subst e
      rw [has_put_same h.map hkey]
      simp
    · rw [has_put_other (fun e2 => e (keyN_inj hm hn e2)), h.there m hm]
      simp [e]
  · by_cases e : m = n
    · subst e
      rw [atKey_put_same h.map hkey, List.idxOf_append, if_neg hi]
      simp
    · have hmo : m ∈ out := by
        rcases List.mem_append.1 hm with hm | hm
        · exact hm
        · exact absurd (List.mem_singleton.1 hm) e
      rw [atKey_put_other (fun e2 => e (keyN_inj (h.wide m hmo) hn e2)), h.at_ m hmo, List.idxOf_append, if_pos hmo]
def plV (d : Option Nat) : Value := .int .i64 (match d with | none => 0 | some k => ((k + 1 : Nat) : Int))
/-- the walk of the program at block bw: what it walks over, the numbers (plus 1) in block bp, the list (a row of its own), the map in block bm -/
structure PW (W : World) (base bw bp bm : Nat) (A : Option Addr) (c n : Nat) (s : Wk) : Prop where
  lw : bw < base
  lp : bp < base
  lm : bm < base
  n1 : bw ≠ bp
  n2 : bw ≠ bm
  n3 : bp ≠ bm
  lb : base ≤ W.heap.size
  frm : W.cell? ⟨bw, 0, none⟩ = some (.slice A n c)
  pl : W.cell? ⟨bw, 1, none⟩ = some (.slice (some ⟨bp, 0, none⟩) n n)
  out : ∃ A2 c2, W.cell? ⟨bw, 2, none⟩ = some (.slice A2 s.out.length c2) ∧ W.ownsRow base 55 6 (.slice A2 s.out.length c2) s.out.length (nds s.out)
  fout : W.frozen? ⟨bw, 2, none⟩ = false
  mp : W.cell? ⟨bw, 3, none⟩ = some (.map (some bm))
  map : ∃ D, W.ownsMap Tryd.prog 55 (plainElem (H := Unit) Tryd.prog 3) bm s.out.length D ∧ MapOf s.out D
  len : s.done.length = n
  cells : ∀ j, j < n → W.cell? ⟨bp, j, none⟩ = some (plV (s.done.getD j none))
  free : ∀ j, j < n → W.frozen? ⟨bp, j, none⟩ = false
def rowP (W : World) (bw : Nat) : Option Nat := match W.cell? ⟨bw, 2, none⟩ with | some v => v.ownBlock | none => none
theorem rowP_of {W : World} {bw : Nat} {v : Value} (h : W.cell? ⟨bw, 2, none⟩ = some v) : rowP W bw = v.ownBlock := by unfold rowP; rw [h]
theorem rowP_same {w w' : World} {bw : Nat} (h : w'.heap[bw]? = w.heap[bw]?) : rowP w' bw = rowP w bw := by unfold rowP; rw [World.cell?_of_block (a := ⟨bw, 2, none⟩) h]
/-- what a step of the program's walk leaves -/
structure Fp (bw bp bm : Nat) (w w' : World) : Prop where
  os : w'.os = w.os
  tape : w'.tape = w.tape
  output : w'.output = w.output
  size : w.heap.size ≤ w'.heap.size
  block : ∀ g, g < w.heap.size → g ≠ bw → g ≠ bp → g ≠ bm → some g ≠ rowP w bw → w'.heap[g]? = w.heap[g]?
  row : rowP w' bw = rowP w bw ∨ ∃ g, rowP w' bw = some g ∧ w.heap.size ≤ g
theorem Fp.of_below {w w' : World} {bw bp bm : Nat} (h : Below w.heap.size w w') (hb : bw < w.heap.size) : Fp bw bp bm w w' :=
  ⟨h.os, h.tape, h.output, h.size, fun g hg _ _ _ _ => h.block g hg, .inl (rowP_same (h.block bw hb))⟩
theorem Fp.trans {a b c : World} {bw bp bm : Nat} (h : Fp bw bp bm a b) (k : Fp bw bp bm b c) : Fp bw bp bm a c := by
  refine ⟨k.os.trans h.os, k.tape.trans h.tape, k.output.trans h.output, Nat.le_trans h.size k.size, fun g hg h1 h2 h3 h4 => ?_, ?_⟩
  · refine (k.block g (Nat.lt_of_lt_of_le hg h.size) h1 h2 h3 ?_).trans (h.block g hg h1 h2 h3 h4)
    rcases h.row with e | ⟨g2, e, hl⟩
    · rw [e]; exact h4
    · rw [e]; intro e2; injection e2; omega
  · rcases k.row with e | ⟨g2, e, hl⟩
    · rw [e]; exact h.row
    · exact .inr ⟨g2, e, Nat.le_trans h.size hl⟩
theorem Fp.low {bw bp bm : Nat} {w w' : World} (h : Fp bw bp bm w w') {B : Nat} (h0 : B ≤ w.heap.size) (h1 : B ≤ bw) (h2 : B ≤ bp) (h4 : B ≤ bm) (h3 : ∀ g, rowP w bw = some g → B ≤ g) : Below B w w' :=
  ⟨h.os, h.tape, h.output, h.size, fun g hg => h.block g (by omega) (by omega) (by omega) (by omega) (fun e => by have := h3 g e.symm; omega)⟩
theorem Fp.other {bw bp bm : Nat} {w W : World} (h : Fp bw bp bm w W) {g j : Nat} (v : Value) (h1 : w.heap.size ≤ g) (h2 : g ≠ bw) : Fp bw bp bm w (W.setCell ⟨g, j, none⟩ v) := by
  refine ⟨h.os, h.tape, h.output, by simpa using h.size, fun k hk a b c d => (Below.heap_setCell _ _ _ _ (by show k ≠ g; omega)).trans (h.block k hk a b c d), ?_⟩
  rw [rowP_same (Below.heap_setCell W ⟨g, j, none⟩ v bw h2.symm)]; exact h.row
theorem Fp.setP {bw bp bm : Nat} {w W : World} (h : Fp bw bp bm w W) {j : Nat} (v : Value) (hne : bw ≠ bp) : Fp bw bp bm w (W.setCell ⟨bp, j, none⟩ v) := by
  refine ⟨h.os, h.tape, h.output, by simpa using h.size, fun k hk a b c d => (Below.heap_setCell _ _ _ _ b).trans (h.block k hk a b c d), ?_⟩
  rw [rowP_same (Below.heap_setCell W ⟨bp, j, none⟩ v bw hne)]; exact h.row
theorem Fp.drewN {bw bp bm : Nat} {w W : World} (h : Fp bw bp bm w W) (k : Nat) : Fp bw bp bm w (W.drewN k) :=
  ⟨h.os, h.tape, h.output, h.size, h.block, h.row⟩
theorem ownsMap_keep {w w' : World} {P : Program} {t : TypeId} {R : Value → Option (DataW Unit × List MemPlace)} {B n : Nat} {D : DataW Unit} (h : w.ownsMap P t R B n D) (hb : w'.heap[B]? = w.heap[B]?) : w'.ownsMap P t R B n D := by
  obtain ⟨es, clock, h1, rest⟩ := h
  exact ⟨es, clock, hb.trans h1, rest⟩
theorem PW.row {W : World} {base bw bp bm c n : Nat} {A : Option Addr} {s : Wk} (h : PW W base bw bp bm A c n s) : ∀ g, rowP W bw = some g → base ≤ g ∧ g < W.heap.size := by
  obtain ⟨A2, c2, h1, h2⟩ := h.out
  intro g hg
  rw [rowP_of h1] at hg
  exact h2.lt g hg
theorem PW.keep {W W' : World} {base bw bp bm c n : Nat} {A : Option Addr} {s : Wk} (h : PW W base bw bp bm A c n s) (hs : W.heap.size ≤ W'.heap.size) (hw : W'.heap[bw]? = W.heap[bw]?) (hd : W'.heap[bp]? = W.heap[bp]?) (hm : W'.heap[bm]? = W.heap[bm]?)
    (hr : ∀ g, rowP W bw = some g → W'.heap[g]? = W.heap[g]?) : PW W' base bw bp bm A c n s := by
  obtain ⟨A2, c2, h1, h2⟩ := h.out
  obtain ⟨D, h5, h6⟩ := h.map
  have e : ∀ j, W'.cell? ⟨bw, j, none⟩ = W.cell? ⟨bw, j, none⟩ := fun j => World.cell?_of_block (a := ⟨bw, j, none⟩) hw
  exact ⟨h.lw, h.lp, h.lm, h.n1, h.n2, h.n3, Nat.le_trans h.lb hs, (e 0).trans h.frm, (e 1).trans h.pl, ⟨A2, c2, (e 2).trans h1, own_keep1 h2 (fun g hg => hr g (by rw [rowP_of h1]; exact hg))⟩,
    (World.frozen?_of_block (a := ⟨bw, 2, none⟩) hw).trans h.fout, (e 3).trans h.mp, ⟨D, ownsMap_keep h5 hm, h6⟩, h.len,
    fun j hj => (World.cell?_of_block (a := ⟨bp, j, none⟩) hd).trans (h.cells j hj), fun j hj => (World.frozen?_of_block (a := ⟨bp, j, none⟩) hd).trans (h.free j hj)⟩
theorem PW.below {W W' : World} {base bw bp bm c n : Nat} {A : Option Addr} {s : Wk} (h : PW W base bw bp bm A c n s) (hb : Below W.heap.size W W') : PW W' base bw bp bm A c n s := by
  have lw := h.lw
  have lp := h.lp
  have lm := h.lm
  have lb := h.lb
  exact h.keep hb.size (hb.block _ (by omega)) (hb.block _ (by omega)) (hb.block _ (by omega)) (fun g hg => hb.block g (h.row g hg).2)
theorem PW.drewN {W : World} {base bw bp bm c n : Nat} {A : Option Addr} {s : Wk} (h : PW W base bw bp bm A c n s) (k : Nat) : PW (W.drewN k) base bw bp bm A c n s :=
  h.keep (Nat.le_refl _) rfl rfl rfl (fun _ _ => rfl)
theorem PW.set {W : World} {base bw bp bm c n : Nat} {A : Option Addr} {s : Wk} (h : PW W base bw bp bm A c n s) {i : Nat} (hi : i < n) (k : Nat) : PW (W.setCell ⟨bp, i, none⟩ (.int .i64 ((k + 1 : Nat) : Int))) base bw bp bm A c n ⟨s.out, s.done.set i (some k)⟩ := by
  obtain ⟨A2, c2, h1, h2⟩ := h.out
  obtain ⟨D, h5, h6⟩ := h.map
  have hw : (W.setCell ⟨bp, i, none⟩ (.int .i64 ((k + 1 : Nat) : Int))).heap[bw]? = W.heap[bw]? := Below.heap_setCell _ _ _ _ h.n1
  have e : ∀ j, (W.setCell ⟨bp, i, none⟩ (.int .i64 ((k + 1 : Nat) : Int))).cell? ⟨bw, j, none⟩ = W.cell? ⟨bw, j, none⟩ := fun j => World.cell?_of_block (a := ⟨bw, j, none⟩) hw
  refine ⟨h.lw, h.lp, h.lm, h.n1, h.n2, h.n3, by simpa using h.lb, (e 0).trans h.frm, (e 1).trans h.pl, ⟨A2, c2, (e 2).trans h1, ownsRow_setCell_below h2 h.lp _⟩,
    (World.frozen?_of_block (a := ⟨bw, 2, none⟩) hw).trans h.fout, (e 3).trans h.mp, ⟨D, ownsMap_keep h5 (Below.heap_setCell _ _ _ _ h.n3.symm), h6⟩, by show (s.done.set i (some k)).length = n; rw [List.length_set, h.len],
    fun j hj => ?_, fun j hj => by rw [World.frozen?_setCell]; exact h.free j hj⟩
  show _ = some (plV ((s.done.set i (some k)).getD j none))
  rw [getD_set (by rw [h.len]; exact hi)]
  by_cases e : i = j
  · subst e
    rw [if_pos rfl]
    exact World.cell?_setCell_same W _ _ (h.cells i hi)
  · rw [if_neg e, World.cell?_setCell_other W ⟨bp, i, none⟩ ⟨bp, j, none⟩ _ (fun e2 => by have h9 := congrArg Addr.off e2; dsimp only at h9; omega)]
    exact h.cells j hj
/-- a block that is no part of the program's walk -/
structure Aside (W : World) (bw bp bm g : Nat) : Prop where
  lt : g < W.heap.size
  n1 : g ≠ bw
  n2 : g ≠ bp
  n3 : g ≠ bm
  row : some g ≠ rowP W bw
theorem Aside.step {W W' : World} {bw bp bm g : Nat} (h : Aside W bw bp bm g) (hF : Fp bw bp bm W W') : W'.heap[g]? = W.heap[g]? ∧ Aside W' bw bp bm g := by
  refine ⟨hF.block g h.lt h.n1 h.n2 h.n3 h.row, Nat.lt_of_lt_of_le h.lt hF.size, h.n1, h.n2, h.n3, ?_⟩
  rcases hF.row with e | ⟨k, e, hl⟩
  · rw [e]; exact h.row
  · rw [e]; intro e2; injection e2; have := h.lt; omega
theorem Aside.low {W W' : World} {bw bp bm g : Nat} (h : Aside W bw bp bm g) (hb : Below W.heap.size W W') (hw : bw < W.heap.size) : Aside W' bw bp bm g :=
  ⟨Nat.lt_of_lt_of_le h.lt hb.size, h.n1, h.n2, h.n3, by rw [rowP_same (hb.block bw hw)]; exact h.row⟩
theorem Aside.new {W W' : World} {base bw bp bm c n g : Nat} {A : Option Addr} {s : Wk} (hS : PW W base bw bp bm A c n s) (hb : Below W.heap.size W W') (h1 : W.heap.size ≤ g) (h2 : g < W'.heap.size) : Aside W' bw bp bm g := by
  have lw := hS.lw
  have lp := hS.lp
  have lm := hS.lm
  have lb := hS.lb
  refine ⟨h2, by omega, by omega, by omega, ?_⟩
  rw [rowP_same (hb.block bw (by omega))]
  intro e
  have := (hS.row g e.symm).2
  omega
theorem Aside.set {W : World} {bw bp bm g g2 j : Nat} (h : Aside W bw bp bm g) (hg : g2 ≠ bw) (v : Value) : Aside (W.setCell ⟨g2, j, none⟩ v) bw bp bm g :=
  ⟨by simpa using h.lt, h.n1, h.n2, h.n3, by rw [rowP_same (Below.heap_setCell W ⟨g2, j, none⟩ v bw hg.symm)]; exact h.row⟩
theorem PW.other {W : World} {base bw bp bm c n g j : Nat} {A : Option Addr} {s : Wk} (h : PW W base bw bp bm A c n s) (ha : Aside W bw bp bm g) (v : Value) : PW (W.setCell ⟨g, j, none⟩ v) base bw bp bm A c n s :=
  h.keep (by simp) (Below.heap_setCell _ _ _ _ ha.n1.symm) (Below.heap_setCell _ _ _ _ ha.n2.symm) (Below.heap_setCell _ _ _ _ ha.n3.symm) (fun k hk => Below.heap_setCell _ _ _ _ (fun e => ha.row (by rw [hk, e])))
/-- the three boxes of renumber: the node, its result, its shape -/
structure PQ (w W : World) (B base bw bp bm c n : Nat) (A : Option Addr) (f : List Nd) (s : Wk) (g0 g1 g2 : Nat) (x : Nd) (a1 a2 a3 a4 : Int) : Prop where
  st : PW W base bw bp bm A c n s
  rd : Reads W B 6 A n (nds f)
  bx : Box W g0 x
  rs : W.heap[g1]? = some (.cells #[.int .i64 0, .int .i64 0, .int .i64 0, .int .i64 0, .int .i64 0, .int .i64 0] 55 (0, 0))
  sh : W.heap[g2]? = some (.cells #[.int .i64 a1, .int .i64 a2, .int .i64 a3, .int .i64 a4] 95 (0, 0))
  fr : Fp bw bp bm w W
  a0 : Aside W bw bp bm g0
  a1 : Aside W bw bp bm g1
  a2 : Aside W bw bp bm g2
  l0 : w.heap.size ≤ g0
  n01 : g0 ≠ g1
  n02 : g0 ≠ g2
theorem PQ.step {w W W' : World} {B base bw bp bm c n : Nat} {A : Option Addr} {f : List Nd} {s s' : Wk} {g0 g1 g2 : Nat} {x : Nd} {a1 a2 a3 a4 : Int} (h : PQ w W B base bw bp bm c n A f s g0 g1 g2 x a1 a2 a3 a4)
    (hS : PW W' base bw bp bm A c n s') (hF : Fp bw bp bm W W') (hB1 : B ≤ bw) (hB2 : B ≤ bp) (hB4 : B ≤ bm) (hB3 : B ≤ base) : PQ w W' B base bw bp bm c n A f s' g0 g1 g2 x a1 a2 a3 a4 := by
  have lb := h.st.lb
  obtain ⟨e0, k0⟩ := h.a0.step hF
  obtain ⟨e1, k1⟩ := h.a1.step hF
  obtain ⟨e2, k2⟩ := h.a2.step hF
  exact ⟨hS, h.rd.below (hF.low (by omega) hB1 hB2 hB4 (fun g hg => by have := (h.st.row g hg).1; omega)), h.bx.keep e0, e1.trans h.rs, e2.trans h.sh, h.fr.trans hF, k0, k1, k2, h.l0, h.n01, h.n02⟩
theorem PQ.set {w W : World} {B base bw bp bm c n : Nat} {A : Option Addr} {f : List Nd} {s : Wk} {g0 g1 g2 j : Nat} {x x' : Nd} {a1 a2 a3 a4 : Int} {v : Value} (h : PQ w W B base bw bp bm c n A f s g0 g1 g2 x a1 a2 a3 a4)
    (hx : Box (W.setCell ⟨g0, j, none⟩ v) g0 x') (hB : B ≤ w.heap.size) : PQ w (W.setCell ⟨g0, j, none⟩ v) B base bw bp bm c n A f s g0 g1 g2 x' a1 a2 a3 a4 := by
  have l0 := h.l0
  exact ⟨h.st.other h.a0 v, h.rd.setCell (by show B ≤ g0; omega) v, hx, (Below.heap_setCell _ _ _ _ h.n01.symm).trans h.rs, (Below.heap_setCell _ _ _ _ h.n02.symm).trans h.sh, h.fr.other v h.l0 h.a0.n1,
    h.a0.set h.a0.n1 v, h.a1.set h.a0.n1 v, h.a2.set h.a0.n1 v, h.l0, h.n01, h.n02⟩
theorem PQ.cells {w W : World} {B base bw bp bm c n : Nat} {A : Option Addr} {f : List Nd} {s : Wk} {g0 g1 g2 : Nat} {x : Nd} {a1 a2 a3 a4 : Int} (h : PQ w W B base bw bp bm c n A f s g0 g1 g2 x a1 a2 a3 a4) : W.cell? ⟨g2, 3, none⟩ = some (.int .i64 a4) := Lib.cell_of_heap h.sh 3
theorem PQ.start {w w1 : World} {B base bw bp bm c n : Nat} {A : Option Addr} {f : List Nd} {s : Wk} (h : PW w base bw bp bm A c n s) (hR : Reads w B 6 A n (nds f)) (hB : B ≤ w.heap.size) (x : Nd) (a1 a2 a3 a4 : Int)
    (hb : Below ((w.alloc (.cells #[.int .i64 x.op, .int .i64 x.i, .int .i64 x.e, .int .i64 x.g, .int .i64 x.x, .int .i64 x.y] 55)).alloc (.cells #[.int .i64 0, .int .i64 0, .int .i64 0, .int .i64 0, .int .i64 0, .int .i64 0] 55)).heap.size
      ((w.alloc (.cells #[.int .i64 x.op, .int .i64 x.i, .int .i64 x.e, .int .i64 x.g, .int .i64 x.x, .int .i64 x.y] 55)).alloc (.cells #[.int .i64 0, .int .i64 0, .int .i64 0, .int .i64 0, .int .i64 0, .int .i64 0] 55)) w1) :
    PQ w (w1.alloc (.cells #[.int .i64 a1, .int .i64 a2, .int .i64 a3, .int .i64 a4] 95)) B base bw bp bm c n A f s w.heap.size (w.heap.size + 1) w1.heap.size x a1 a2 a3 a4 := by
  have hs1 : (w.alloc (.cells #[.int .i64 x.op, .int .i64 x.i, .int .i64 x.e, .int .i64 x.g, .int .i64 x.x, .int .i64 x.y] 55)).heap.size = w.heap.size + 1 := by simp
  have hbx := Box.made w x 55
  have hba : Below w.heap.size w (w.alloc (.cells #[.int .i64 x.op, .int .i64 x.i, .int .i64 x.e, .int .i64 x.g, .int .i64 x.x, .int .i64 x.y] 55)) := (Below.refl _ w).alloc (Nat.le_refl _) _
  generalize w.alloc (.cells #[.int .i64 x.op, .int .i64 x.i, .int .i64 x.e, .int .i64 x.g, .int .i64 x.x, .int .i64 x.y] 55) = wa at *
  have hs2 : (wa.alloc (.cells #[.int .i64 0, .int .i64 0, .int .i64 0, .int .i64 0, .int .i64 0, .int .i64 0] 55)).heap.size = w.heap.size + 2 := by simp; omega
  have hr0 := heap_alloc_new wa (.cells #[.int .i64 0, .int .i64 0, .int .i64 0, .int .i64 0, .int .i64 0, .int .i64 0] 55)
  have hbb : Below wa.heap.size wa (wa.alloc (.cells #[.int .i64 0, .int .i64 0, .int .i64 0, .int .i64 0, .int .i64 0, .int .i64 0] 55)) := (Below.refl _ wa).alloc (Nat.le_refl _) _
  generalize wa.alloc (.cells #[.int .i64 0, .int .i64 0, .int .i64 0, .int .i64 0, .int .i64 0, .int .i64 0] 55) = wb at *
  have hbc : Below w1.heap.size w1 (w1.alloc (.cells #[.int .i64 a1, .int .i64 a2, .int .i64 a3, .int .i64 a4] 95)) := (Below.refl _ w1).alloc (Nat.le_refl _) _
  have hsh := heap_alloc_new w1 (.cells #[.int .i64 a1, .int .i64 a2, .int .i64 a3, .int .i64 a4] 95)
  have hs3 : (w1.alloc (.cells #[.int .i64 a1, .int .i64 a2, .int .i64 a3, .int .i64 a4] 95)).heap.size = w1.heap.size + 1 := by simp
  generalize w1.alloc (.cells #[.int .i64 a1, .int .i64 a2, .int .i64 a3, .int .i64 a4] 95) = w2 at *
  have s1 := hb.size
  have lb := h.lb
  have lw := h.lw
  have hall : Below w.heap.size w w2 := (hba.trans (hbb.mono (by omega))).trans ((hb.mono (by omega)).trans (hbc.mono (by omega)))
  refine ⟨h.below hall, hR.below (hall.mono hB), hbx.keep ?_, ?_, hsh, Fp.of_below hall (by omega), Aside.new h hall (Nat.le_refl _) (by omega), Aside.new h hall (by omega) (by omega), Aside.new h hall (by omega) (by omega), Nat.le_refl _, by omega, by omega⟩
  · exact (hbc.block _ (by omega)).trans ((hb.block _ (by omega)).trans (hbb.block _ (by omega)))
  · rw [hs1] at hr0
    exact (hbc.block _ (by omega)).trans ((hb.block _ (by omega)).trans hr0)
/-- a node stored into a block -/
def putBox (W : World) (g : Nat) (x : Nd) : World := (((((W.setCell ⟨g, 0, none⟩ (.int .i64 x.op)).setCell ⟨g, 1, none⟩ (.int .i64 x.i)).setCell ⟨g, 2, none⟩ (.int .i64 x.e)).setCell ⟨g, 3, none⟩ (.int .i64 x.g)).setCell ⟨g, 4, none⟩ (.int .i64 x.x)).setCell ⟨g, 5, none⟩ (.int .i64 x.y)
theorem putBox_block {W : World} {g : Nat} {a b c d e f : Value} {t : TypeId} (h : W.heap[g]? = some (.cells #[a, b, c, d, e, f] t (0, 0))) (x : Nd) :
    (putBox W g x).heap[g]? = some (.cells #[.int .i64 x.op, .int .i64 x.i, .int .i64 x.e, .int .i64 x.g, .int .i64 x.x, .int .i64 x.y] t (0, 0)) := by
  unfold putBox
  simp [World.setCell, Array.getElem?_modify, h]
theorem PQ.done {w W : World} {B base bw bp bm c n : Nat} {A : Option Addr} {f : List Nd} {s : Wk} {g0 g1 g2 : Nat} {x : Nd} {a1 a2 a3 a4 : Int} (h : PQ w W B base bw bp bm c n A f s g0 g1 g2 x a1 a2 a3 a4) (hl : w.heap.size ≤ g1) (z : Nd) :
    PW (putBox W g1 z) base bw bp bm A c n s ∧ Fp bw bp bm w (putBox W g1 z) := by
  have a0 := h.a1
  have n1 := a0.n1
  have a1 := a0.set (j := 0) n1 (.int .i64 z.op)
  have a2 := a1.set (j := 1) n1 (.int .i64 z.i)
  have a3 := a2.set (j := 2) n1 (.int .i64 z.e)
  have a4 := a3.set (j := 3) n1 (.int .i64 z.g)
  have a5 := a4.set (j := 4) n1 (.int .i64 z.x)
  exact ⟨(((((h.st.other a0 _).other a1 _).other a2 _).other a3 _).other a4 _).other a5 _, (((((h.fr.other _ hl n1).other _ hl n1).other _ hl n1).other _ hl n1).other _ hl n1).other _ hl n1⟩
theorem PQ.zero {w W : World} {B base bw bp bm c n : Nat} {A : Option Addr} {f : List Nd} {s : Wk} {g0 g1 g2 : Nat} {x : Nd} {a1 a2 a3 a4 : Int} (h : PQ w W B base bw bp bm c n A f s g0 g1 g2 x a1 a2 a3 a4) :
    Box W g1 ⟨0, 0, 0, 0, 0, 0⟩ := by
  have := Lib.cell_of_heap h.rs
  exact ⟨this 0, this 1, this 2, this 3, this 4, this 5, fun j => Lib.frozen_of_heap h.rs j⟩
end Go.Proofs.YtopkmcoblndokaaDoor
/- Layer 5: the program's add. -/
namespace Go.Proofs.YtopkmcoblndokaaDoor
open Go.RowKit Go.Proofs.Ws Go.Maps
set_option maxRecDepth 100000
theorem zeroI (w : World) : (zeroValue 3).run Tryd.prog w = .ok (.int .i64 0) w := by kernel_rfl
theorem look_old {W : World} {bm m : Nat} {D : DataW Unit} {out : List Nd} {n : Nd} (h : W.ownsMap Tryd.prog 55 (plainElem (H := Unit) Tryd.prog 3) bm m D) (hM : MapOf out D) (hi : n ∈ out) :
    (Instr.lookup 101 (.map (some bm)) (nv n) true).run Tryd.prog W = .ok (.tuple #[.int .i64 (out.idxOf n : Int), .bool true]) W := by
  obtain ⟨v, ps, hrun, hv⟩ := h.look_ok nodeLaw Tryd.underlying101 (zeroI W) (plainElem_int Tryd.underlying3 (by decide)) (key_nd (hM.wide n hi))
  rw [hM.at_ n hi] at hv
  obtain ⟨c, rfl, hc, hwc⟩ := plainElem_int_inv Tryd.underlying3 hv
  rw [hrun, (hM.there n (hM.wide n hi)).2 hi]
  have := congrArg Prod.fst hc
  injection this with h1
  injection h1 with _ h2
  rw [h2]
theorem look_new {W : World} {bm m : Nat} {D : DataW Unit} {out : List Nd} {n : Nd} (h : W.ownsMap Tryd.prog 55 (plainElem (H := Unit) Tryd.prog 3) bm m D) (hM : MapOf out D) (hw : NdW n) (hi : n ∉ out) :
    ∃ c : Int, ∀ k, (Instr.lookup 101 (.map (some bm)) (nv n) true).run Tryd.prog (W.drewN k) = .ok (.tuple #[.int .i64 c, .bool false]) (W.drewN k) := by
  have hb : Maps.has D (keyN n) = false := by
    cases hq : Maps.has D (keyN n)
    · rfl
    · exact absurd ((hM.there n hw).1 hq) hi
  obtain ⟨v, ps, hrun, hv⟩ := h.look_ok nodeLaw Tryd.underlying101 (zeroI W) (plainElem_int Tryd.underlying3 (by decide)) (key_nd hw)
  obtain ⟨c, rfl, hc, hwc⟩ := plainElem_int_inv Tryd.underlying3 hv
  refine ⟨c, fun k => ?_⟩
  have h2 : (W.drewN k).ownsMap Tryd.prog 55 (plainElem (H := Unit) Tryd.prog 3) bm m D := ownsMap_keep h rfl
  obtain ⟨v2, ps2, hrun2, hv2⟩ := h2.look_ok nodeLaw Tryd.underlying101 (zeroI _) (plainElem_int Tryd.underlying3 (by decide)) (key_nd hw)
  obtain ⟨c2, rfl, hc2, hwc2⟩ := plainElem_int_inv Tryd.underlying3 hv2
  rw [hrun2, hb]
  have e1 := congrArg Prod.fst hc
  have e2 := congrArg Prod.fst hc2
  have : c2 = c := by
    have e3 := e2.symm.trans e1
    injection e3 with h3
    injection h3
  rw [this]
set_option maxRecDepth 100000 in
set_option maxHeartbeats 4000000 in
theorem pAdd_old (x : Nd) (base bw bp bm c n : Nat) (A : Option Addr) (s : Wk) (w : World) (hS : PW w base bw bp bm A c n s) (hin : x ∈ s.out) :
    Calls Tryd.prog 87 #[.pointer (some ⟨bw, 0, none⟩), nv x] w fun e w' => e = .returned (.int .i64 (s.out.idxOf x : Int)) ∧ Below w.heap.size w w' := by
  obtain ⟨D, hown, hM⟩ := hS.map
  have hm := hS.mp
  have lw : bw < w.heap.size := Nat.lt_of_lt_of_le hS.lw hS.lb
  have HB : Hid (∀ o, Below w.heap.size w (w.alloc o)) := Lib.hid (fun o => (Below.refl _ w).alloc (Nat.le_refl _) o)
  have hL : ∀ W : World, W.heap[bm]? = w.heap[bm]? → (Instr.lookup 101 (.map (some bm)) (nv x) true).run Tryd.prog W = .ok (.tuple #[.int .i64 (s.out.idxOf x : Int), .bool true]) W := fun W h => look_old (ownsMap_keep hown h) hM hin
  have lm : bm < w.heap.size := Nat.lt_of_lt_of_le hS.lm hS.lb
  have hL1 : ∀ (o : Obj) (k : Nat), (Instr.lookup 101 (.map (some bm)) (nv x) true).run Tryd.prog ((w.alloc o).drewN k) = .ok (.tuple #[.int .i64 (s.out.idxOf x : Int), .bool true]) ((w.alloc o).drewN k) := fun o k => hL _ (by show (w.alloc o).heap[bm]? = _; exact Below.heap_alloc w o bm lm)
  unfold nv at hL1 ⊢
  generalize s.out.idxOf x = z at *
  clear hS hin hL hM hown
  go_enter Tryd.func87, Tryd.ntmps87
  go_wp2
  go_quiet (fail)
  go_wp2
  go_ret
  exact ⟨rfl, below_drewN (HB.out _) _⟩
theorem turned_cell {w w' : World} {b : Nat} (h : w.mapTurned w' b) {g : Nat} (hg : g < w.heap.size) (hne : g ≠ b) : w'.heap[g]? = w.heap[g]? := h.grown.block g hg (fun e => hne (by injection e))
theorem PW.put_end {w w3 w4 : World} {base bw bp bm c n g3 c3 : Nat} {A : Option Addr} {s : Wk} {x : Nd} {D : DataW Unit} {row : Option Nat} (h : PW w base bw bp bm A c n s) (hb3 : Below 0 w w3) (hk : ∀ g, g < w.heap.size → g ≠ bm → w3.heap[g]? = w.heap[g]?)
    (hM : MapOf s.out D) (hx : x ∉ s.out) (hw : NdW x) (ho3 : w3.ownsMap Tryd.prog 55 (plainElem (H := Unit) Tryd.prog 3) bm (s.out.length + 1) (D.put (keyN x) (.lit (.int .i64 (s.out.length : Int)))))
    (hrow : rowP w bw = row) (ho : w4.ownsRow base 55 6 (.slice (some ⟨g3, 0, none⟩) (s.out.length + 1) c3) (s.out ++ [x]).length (nds (s.out ++ [x]))) (hg : w3.grownBy w4 row)
    (hr : (Value.slice (some ⟨g3, 0, none⟩) (s.out.length + 1) c3).ownBlock = row ∨ ∃ g, (Value.slice (some ⟨g3, 0, none⟩) (s.out.length + 1) c3).ownBlock = some g ∧ w.heap.size ≤ g) :
    PW (w4.setCell ⟨bw, 2, none⟩ (.slice (some ⟨g3, 0, none⟩) (s.out.length + 1) c3)) base bw bp bm A c n ⟨s.out ++ [x], s.done⟩ ∧ Fp bw bp bm w (w4.setCell ⟨bw, 2, none⟩ (.slice (some ⟨g3, 0, none⟩) (s.out.length + 1) c3)) := by
  have lw := h.lw
  have lp := h.lp
  have lm := h.lm
  have lb := h.lb
  have n1 := h.n1
  have n2 := h.n2
  have n3 := h.n3
  have hs3 := hb3.size
  have hrl : ∀ g, row = some g → base ≤ g := fun g e => (h.row g (hrow.trans e)).1
  have hb4 : ∀ g, g < base → g ≠ bm → w4.heap[g]? = w.heap[g]? := fun g h1 h2 => (hg.block g (by omega) (fun e => by have := hrl g e.symm; omega)).trans (hk g (by omega) h2)
  have hbw := hb4 bw lw n2
  have hbp : (w4.setCell ⟨bw, 2, none⟩ (.slice (some ⟨g3, 0, none⟩) (s.out.length + 1) c3)).heap[bp]? = w.heap[bp]? := (Below.heap_setCell _ _ _ _ (by show bp ≠ bw; omega)).trans (hb4 bp lp n3)
  have hbm : (w4.setCell ⟨bw, 2, none⟩ (.slice (some ⟨g3, 0, none⟩) (s.out.length + 1) c3)).heap[bm]? = w3.heap[bm]? := (Below.heap_setCell _ _ _ _ (by show bm ≠ bw; omega)).trans (hg.block bm (by omega) (fun e => by have := hrl bm e.symm; omega))
  obtain ⟨A2, c2, h2, _⟩ := h.out
  have hc2 := (World.cell?_of_block (a := ⟨bw, 2, none⟩) hbw).trans h2
  have hk2 := World.cell?_setCell_same w4 ⟨bw, 2, none⟩ (.slice (some ⟨g3, 0, none⟩) (s.out.length + 1) c3) hc2
  have hj : ∀ j v, j ≠ 2 → w.cell? ⟨bw, j, none⟩ = some v → (w4.setCell ⟨bw, 2, none⟩ (.slice (some ⟨g3, 0, none⟩) (s.out.length + 1) c3)).cell? ⟨bw, j, none⟩ = some v := fun j v hj hv => by
    rw [World.cell?_setCell_other w4 ⟨bw, 2, none⟩ ⟨bw, j, none⟩ _ (fun e2 => by have h9 := congrArg Addr.off e2; dsimp only at h9; omega)]
    exact (World.cell?_of_block (a := ⟨bw, j, none⟩) hbw).trans hv
  have hsz : w.heap.size ≤ (w4.setCell ⟨bw, 2, none⟩ (.slice (some ⟨g3, 0, none⟩) (s.out.length + 1) c3)).heap.size := by have := hg.size; simp; omega
  have hlen : (s.out ++ [x]).length = s.out.length + 1 := by simp
  refine ⟨⟨lw, lp, lm, n1, n2, n3, by omega, hj 0 _ (by decide) h.frm, hj 1 _ (by decide) h.pl, ⟨_, c3, by rw [hlen]; exact hk2, ?_⟩, ?_, hj 3 _ (by decide) h.mp, ⟨_, ?_, hM.put hw hx⟩, h.len, fun j hj => ?_, fun j hj => ?_⟩, ?_⟩
  · rw [hlen]
    have := ownsRow_setCell_below ho (a := ⟨bw, 2, none⟩) lw (.slice (some ⟨g3, 0, none⟩) (s.out.length + 1) c3)
    rw [hlen] at this
    exact this
  · rw [World.frozen?_setCell]
    exact (World.frozen?_of_block (a := ⟨bw, 2, none⟩) hbw).trans h.fout
  · rw [hlen]
    exact ownsMap_keep ho3 hbm
  · exact (World.cell?_of_block (a := ⟨bp, j, none⟩) hbp).trans (h.cells j hj)
  · exact (World.frozen?_of_block (a := ⟨bp, j, none⟩) hbp).trans (h.free j hj)
  · refine ⟨hg.os.trans hb3.os, hg.tape.trans hb3.tape, hg.output.trans hb3.output, hsz, fun g hg1 h5 h6 h7 h8 => ?_, ?_⟩
    · rw [hrow] at h8
      exact (Below.heap_setCell w4 _ _ g h5).trans ((hg.block g (by omega) h8).trans (hk g hg1 h7))
    · rw [hrow, rowP_of hk2]
      exact hr
set_option maxRecDepth 100000 in
set_option maxHeartbeats 4000000 in
theorem pAdd_new (x : Nd) (base bw bp bm c n : Nat) (A : Option Addr) (s : Wk) (w : World) (hS : PW w base bw bp bm A c n s) (hin : x ∉ s.out) (hw : NdW x) (hm : s.out.length ≤ 1000) :
    Calls Tryd.prog 87 #[.pointer (some ⟨bw, 0, none⟩), nv x] w fun e w' => e = .returned (.int .i64 (s.out.length : Int)) ∧ PW w' base bw bp bm A c n ⟨s.out ++ [x], s.done⟩ ∧ Fp bw bp bm w w' := by
  obtain ⟨D, hown, hM⟩ := hS.map
  obtain ⟨A2, c2, h2, hrow⟩ := hS.out
  have hm3 := hS.mp
  have lb := hS.lb
  have lw : bw < w.heap.size := Nat.lt_of_lt_of_le hS.lw hS.lb
  have lm : bm < w.heap.size := Nat.lt_of_lt_of_le hS.lm hS.lb
  have lp : bp < w.heap.size := Nat.lt_of_lt_of_le hS.lp hS.lb
  have hfo := hS.fout
  have HS := Lib.hid hS
  have hL0 := fun (o : Obj) => look_new (ownsMap_keep hown (Below.heap_alloc w o bm lm)) hM hw hin
  obtain ⟨z, hL1⟩ := hL0 (.cells #[.int .i64 x.op, .int .i64 x.i, .int .i64 x.e, .int .i64 x.g, .int .i64 x.x, .int .i64 x.y] 55)
  have HB : Hid (Below w.heap.size w (w.alloc (.cells #[.int .i64 x.op, .int .i64 x.i, .int .i64 x.e, .int .i64 x.g, .int .i64 x.x, .int .i64 x.y] 55))) := Lib.hid ((Below.refl _ w).alloc (Nat.le_refl _) _)
  have HBX := Lib.hid (Box.made w x 55)
  have HOWN := Lib.hid hown
  have HM := Lib.hid hM
  have HW := Lib.hid hw
  have HR := Lib.hid hrow
  have HI := Lib.hid hin
  unfold nv at hL1 ⊢
  clear hS hin hL0 hM hown hw hrow
  go_enter Tryd.func87, Tryd.ntmps87
  go_wp2
  go_quiet (fail)
  go_wp2
  have HB0 : Hid (Below w.heap.size w ((w.alloc (.cells #[.int .i64 x.op, .int .i64 x.i, .int .i64 x.e, .int .i64 x.g, .int .i64 x.x, .int .i64 x.y] 55)).drewN nq)) := Lib.hid (below_drewN HB.out _)
  have HBX0 : Hid (Box ((w.alloc (.cells #[.int .i64 x.op, .int .i64 x.i, .int .i64 x.e, .int .i64 x.g, .int .i64 x.x, .int .i64 x.y] 55)).drewN nq) w.heap.size x) := Lib.hid HBX.out
  have hsz0 : w.heap.size < ((w.alloc (.cells #[.int .i64 x.op, .int .i64 x.i, .int .i64 x.e, .int .i64 x.g, .int .i64 x.x, .int .i64 x.y] 55)).drewN nq).heap.size := by show w.heap.size < (w.alloc _).heap.size; simp
  clear hL1 HB HBX
  generalize (w.alloc (.cells #[.int .i64 x.op, .int .i64 x.i, .int .i64 x.e, .int .i64 x.g, .int .i64 x.x, .int .i64 x.y] 55)).drewN nq = w0 at *
  obtain ⟨w3, hrun, hown3, hturn⟩ := World.ownsMap.store (w := w0.drew) (ownsMap_keep HOWN.out (show w0.drew.heap[bm]? = w.heap[bm]? from HB0.out.block bm lm)) nodeLaw Tryd.underlying101 (by unfold maxLen; omega) (key_nd HW.out) (plainElem_int (H := Unit) Tryd.underlying3 (show (Lit.int .i64 (s.out.length : Int)).wf = true from WalkArith.wf_i64 (by omega)))
  have hc3 := (HB0.out.cell (p := ⟨bw, 3, none⟩) lw).trans hm3
  obtain ⟨b0, b1, b2, b3, b4, b5, bf⟩ := HBX0.out
  clear bf
  unfold nv at hrun
  have HBK : Hid (∀ g, g < w.heap.size → g ≠ bm → w3.heap[g]? = w.heap[g]?) := Lib.hid (fun g h1 h2 => (turned_cell hturn (show g < w0.heap.size by omega) h2).trans (HB0.out.block g h1))
  have HG := Lib.hid hturn.grown
  have HO3 := Lib.hid hown3
  clear hown3 hturn
  go_region
  clear hrun b0 b1 b2 b3 b4 b5 hc3
  have hsz3 : w.heap.size < w3.heap.size := Nat.lt_of_lt_of_le hsz0 HG.out.size
  obtain ⟨b0, b1, b2, b3, b4, b5, bf⟩ := HBX0.out.keep (W' := w3) (HG.out.block w.heap.size hsz0 (fun e => by injection e; omega))
  clear bf
  have hc2 : w3.cell? ⟨bw, 2, none⟩ = some (.slice A2 s.out.length c2) := (World.cell?_of_block (a := ⟨bw, 2, none⟩) (HBK.out bw lw HS.out.n2)).trans h2
  have hf2 : w3.frozen? ⟨bw, 2, none⟩ = false := (World.frozen?_of_block (a := ⟨bw, 2, none⟩) (HBK.out bw lw HS.out.n2)).trans hfo
  have hrowlt : Hid (∀ g, (Value.slice A2 s.out.length c2).ownBlock = some g → base ≤ g ∧ g < w.heap.size) := Lib.hid (fun g hg => HR.out.lt g hg)
  have hbmr : Hid (∀ g, (Value.slice A2 s.out.length c2).ownBlock = some g → g ≠ bm) := Lib.hid (fun g hg e => by have := (hrowlt.out g hg).1; have := HS.out.lm; omega)
  have hO0 : Hid (w3.ownsRow base 55 6 (.slice A2 s.out.length c2) s.out.length (nds s.out)) := Lib.hid (own_keep1 HR.out (fun g hg => HBK.out g (hrowlt.out g hg).2 (hbmr.out g hg)))
  have hO1 : Hid (∀ o, (w3.drew.alloc o).ownsRow base 55 6 (.slice A2 s.out.length c2) s.out.length (nds s.out)) := Lib.hid (fun o => own_keep1 hO0.out (fun g hg => Below.heap_alloc w3.drew o g (by show g < w3.heap.size; have := (hrowlt.out g hg).2; omega)))
  have hO2 : Hid (∀ o, base ≤ (w3.drew.alloc o).heap.size) := Lib.hid (fun o => by have : (w3.drew.alloc o).heap.size = w3.heap.size + 1 := by simp
                                                                                   omega)
  have hO3 : Hid (∀ j u, (ndC x)[j]? = some u → (w3.drew.alloc (.cells #[.int .i64 x.op, .int .i64 x.i, .int .i64 x.e, .int .i64 x.g, .int .i64 x.x, .int .i64 x.y] 55)).cell? ⟨w3.heap.size, j, none⟩ = some u) := Lib.hid (fun j u hj => by
    have hh := heap_alloc_new w3.drew (.cells #[.int .i64 x.op, .int .i64 x.i, .int .i64 x.e, .int .i64 x.g, .int .i64 x.x, .int .i64 x.y] 55)
    have := Lib.cell_of_heap hh j
    rw [show (⟨w3.heap.size, j, none⟩ : Addr) = ⟨w3.drew.heap.size, j, none⟩ from rfl, this, ← hj]
    simp [ndC])
  have HNE : Hid (some bw ≠ (Value.slice A2 s.out.length c2).ownBlock) := Lib.hid (fun e => by have := (hrowlt.out bw e.symm).1; have := HS.out.lw; omega)
  have HWW : Hid (∀ o w4, (w3.drew.alloc o).grownBy w4 (Value.slice A2 s.out.length c2).ownBlock → w3.grownBy w4 (Value.slice A2 s.out.length c2).ownBlock ∧ w4.cell? ⟨bw, 2, none⟩ = some (.slice A2 s.out.length c2) ∧ w4.frozen? ⟨bw, 2, none⟩ = false) := Lib.hid (fun o w4 hg => by
    have hb : Below w3.heap.size w3 (w3.drew.alloc o) := ((Below.refl _ w3).drew).alloc (Nat.le_refl _) o
    have h4 : w3.grownBy w4 (Value.slice A2 s.out.length c2).ownBlock := ⟨hg.os.trans hb.os, hg.tape.trans hb.tape, hg.output.trans hb.output, Nat.le_trans hb.size hg.size, fun g hg1 hg2 => (hg.block g (Nat.lt_of_lt_of_le hg1 hb.size) hg2).trans (hb.block g hg1)⟩
    exact ⟨h4, (h4.cell_far ⟨bw, 2, none⟩ (by show bw < w3.heap.size; omega) HNE.out).trans hc2, (h4.frozen_far ⟨bw, 2, none⟩ (by show bw < w3.heap.size; omega) HNE.out).trans hf2⟩)
  have e0 := World.new_ne w3 _ hc2
  have ebw : bw < w3.heap.size := by omega
  have ebn : bw ≠ w3.heap.size := by omega
  go_wp2
  go_region_law
    ((refine step_appN x _ (by rfl) _ _ (by rfl) base _ _ (by rfl) (hO1.out _) (by rfl) hO3.out hm (hO2.out _) ?_; intro g3 c3 w4 ho3 hg3 hr3; obtain ⟨hg4, k0, k1⟩ := HWW.out _ _ hg3; have HH := Lib.hid (And.intro ho3 (And.intro hg4 (row_new (n := s.out.length + 1) (c := c3) hr3 (show w.heap.size ≤ (w3.drew.alloc _).heap.size by simp; omega)))); clear ho3 hg3 hg4 hr3))
  all_goals clear b0 b1 b2 b3 b4 b5 hc2 hf2 e0 ebw ebn
  all_goals go_wp2
  all_goals go_ret
  all_goals exact ⟨ret_i64 (by first | rfl | (simp; done) | omega), HS.out.put_end ⟨HG.out.os.trans HB0.out.os, HG.out.tape.trans HB0.out.tape, HG.out.output.trans HB0.out.output, Nat.le_of_lt hsz3, fun k hk => absurd hk (by omega)⟩ HBK.out HM.out HI.out HW.out HO3.out (rowP_of h2) HH.out.1 HH.out.2.1 HH.out.2.2⟩
theorem pAdd_any (x : Nd) (base bw bp bm c n : Nat) (A : Option Addr) (s : Wk) (w : World) (hS : PW w base bw bp bm A c n s) (hw : NdW x) (hm : s.out.length ≤ 1000) :
    Calls Tryd.prog 87 #[.pointer (some ⟨bw, 0, none⟩), nv x] w fun e w' => e = .returned (.int .i64 ((putNd s.out x).1 : Nat)) ∧ PW w' base bw bp bm A c n ⟨(putNd s.out x).2, s.done⟩ ∧ Fp bw bp bm w w' := by
  by_cases hin : x ∈ s.out
  · refine (pAdd_old x base bw bp bm c n A s w hS hin).mono ?_
    rintro e w' ⟨rfl, hb⟩
    have e1 : putNd s.out x = (s.out.idxOf x, s.out) := by unfold putNd; rw [if_pos hin]
    rw [e1]
    exact ⟨rfl, hS.below hb, Fp.of_below hb (Nat.lt_of_lt_of_le hS.lw hS.lb)⟩
  · refine (pAdd_new x base bw bp bm c n A s w hS hin hw hm).mono ?_
    rintro e w' ⟨rfl, h1, h2⟩
    have e1 : putNd s.out x = (s.out.length, s.out ++ [x]) := by unfold putNd; rw [if_neg hin]
    rw [e1]
    exact ⟨rfl, h1, h2⟩
end Go.Proofs.YtopkmcoblndokaaDoor
/- Layer 5: the program's renumber with the walk's own finish. -/
namespace Go.Proofs.YtopkmcoblndokaaDoor
open Go.RowKit Go.Proofs.Ws Go.Maps
set_option maxRecDepth 100000
set_option maxRecDepth 100000 in
set_option maxHeartbeats 4000000 in
theorem pFin_old (base bw bp bm c n i k : Nat) (A : Option Addr) (s : Wk) (w : World) (hi : i < n) (hkb : k ≤ 1000) (hS : PW w base bw bp bm A c n s) (hd : s.done.getD i none = some k) :
    Calls Tryd.prog 69 #[.pointer (some ⟨bw, 0, none⟩), .int .i64 i] w fun e w' => e = .returned (.int .i64 (k : Int)) ∧ w = w' := by
  have h3 := hS.pl
  have hc := hS.cells i hi
  rw [hd] at hc
  replace hc : w.cell? ⟨bp, i, none⟩ = some (.int .i64 ((k + 1 : Nat) : Int)) := hc
  have hk : (((k + 1 : Nat) : Int) == 0) = false := by simp; omega
  have hk2 : wrap64 ((k : Int) + 1 - 1) = (k : Int) := by rw [Int.add_sub_cancel]; unfold wrap64; omega
  clear hS hd
  go_enter Tryd.func69, Tryd.ntmps69
  go_wp2
  go_ret
  exact ⟨rfl, rfl⟩
theorem nodeInfo : (Tryd.prog.info? 55).map (fun i => i.size) = some 6 := by kernel_rfl
set_option maxRecDepth 100000 in
set_option maxHeartbeats 4000000 in
theorem pRen_0 (B base bw bp bm c n : Nat) (A : Option Addr) (f : List Nd) (s : Wk) (x : Nd) (w : World) (hS : PW w base bw bp bm A c n s) (hR : Reads w B 6 A n (nds f))
    (hB3 : B ≤ base) (ho : shO x.op = 0) :
    Calls Tryd.prog 88 #[nv x, .func (Fn.func 69) #[.pointer (some ⟨bw, 0, none⟩)] #[]] w fun e w' =>
      e = .returned (nv x) ∧ PW w' base bw bp bm A c n s ∧ Fp bw bp bm w w' := by
  have HS := Lib.hid hS
  have HR := Lib.hid hR
  have hB5 : B ≤ w.heap.size := Nat.le_trans hB3 hS.lb
  have HSH := Lib.hid (fun W => pShape_any x.op W)
  unfold shV shC at HSH
  rw [ho] at HSH
  unfold nv
  clear hS hR
  generalize shN x.op = q1 at *
  generalize shE x.op = q2 at *
  generalize shG x.op = q3 at *
  generalize known x.op = q4 at *
  clear ho
  go_enter Tryd.func88, Tryd.ntmps88
  go_wp2_with fail
  refine (HSH.out _).mono ?_
  rintro e w1 ⟨rfl, hb1⟩
  have HQ0 := Lib.hid (PQ.start HS.out HR.out hB5 x q1 q2 q3 0 hb1)
  clear hb1
  have hq3 := HQ0.out.cells
  obtain ⟨b0, b1, b2, b3, b4, b5, bf⟩ := HQ0.out.bx
  clear bf
  obtain ⟨z0, z1, z2, z3, z4, z5, zf⟩ := HQ0.out.zero
  have zf0 := zf 0
  have zf1 := zf 1
  have zf2 := zf 2
  have zf3 := zf 3
  have zf4 := zf 4
  have zf5 := zf 5
  clear zf
  go_wp2_with fail
  have HD := Lib.hid (HQ0.out.done (Nat.le_succ _) x)
  have HK := Lib.hid (putBox_block HQ0.out.rs x)
  refine bodyPost_ret (results_cell_row rfl _ _ (w.heap.size + 1) _ _ (0, 0) _ rfl HK.out Tryd.underlying55 rfl nodeInfo) rfl ?_
  exact ⟨rfl, HD.out⟩
set_option maxRecDepth 100000 in
set_option maxHeartbeats 4000000 in
theorem pRen_1 (B base bw bp bm c n : Nat) (A : Option Addr) (f : List Nd) (s s1 : Wk) (k1 : Nat) (x : Nd) (w : World) (hS : PW w base bw bp bm A c n s) (hR : Reads w B 6 A n (nds f))
    (hB1 : B ≤ bw) (hB2 : B ≤ bp) (hB4 : B ≤ bm) (hB3 : B ≤ base) (ho : shO x.op = 1)
    (HX : ∀ W, PW W base bw bp bm A c n s → Reads W B 6 A n (nds f) → Calls Tryd.prog 69 #[.pointer (some ⟨bw, 0, none⟩), .int .i64 x.x] W fun e W' => e = .returned (.int .i64 (k1 : Int)) ∧ PW W' base bw bp bm A c n s1 ∧ Fp bw bp bm W W') :
    Calls Tryd.prog 88 #[nv x, .func (Fn.func 69) #[.pointer (some ⟨bw, 0, none⟩)] #[]] w fun e w' =>
      e = .returned (nv { x with x := (k1 : Int) }) ∧ PW w' base bw bp bm A c n s1 ∧ Fp bw bp bm w w' := by
  have HS := Lib.hid hS
  have HR := Lib.hid hR
  have hB5 : B ≤ w.heap.size := Nat.le_trans hB3 hS.lb
  have HSH := Lib.hid (fun W => pShape_any x.op W)
  unfold shV shC at HSH
  rw [ho] at HSH
  replace HX := Lib.hid HX
  unfold nv
  clear hS hR
  generalize shN x.op = q1 at *
  generalize shE x.op = q2 at *
  generalize shG x.op = q3 at *
  generalize known x.op = q4 at *
  clear ho
  go_enter Tryd.func88, Tryd.ntmps88
  go_wp2_with fail
  refine (HSH.out _).mono ?_
  rintro e w1 ⟨rfl, hb1⟩
  have HQ0 := Lib.hid (PQ.start HS.out HR.out hB5 x q1 q2 q3 1 hb1)
  clear hb1
  have hq3 := HQ0.out.cells
  obtain ⟨b0, b1, b2, b3, b4, b5, bf⟩ := HQ0.out.bx
  clear bf
  go_wp2_with fail
  clear hq3 b0 b1 b2 b3 b4 b5
  generalize w1.alloc (.cells #[.int .i64 q1, .int .i64 q2, .int .i64 q3, .int .i64 1] 95) = w2 at *
  generalize w1.heap.size = g2 at *
  refine (HX.out _ HQ0.out.st HQ0.out.rd).mono ?_
  rintro e w3 ⟨rfl, hS1, hF1⟩
  have HQ1 := Lib.hid (HQ0.out.step hS1 hF1 hB1 hB2 hB4 hB3)
  clear hS1 hF1
  have HQ2 := Lib.hid (HQ1.out.set (HQ1.out.bx.setX (k1 : Int)) hB5)
  obtain ⟨b0, b1, b2, b3, b4, b5, bf⟩ := HQ1.out.bx
  have bf4 := bf 4
  have hq3 := HQ1.out.cells
  have hn02 := HQ1.out.n02
  clear bf
  obtain ⟨z0, z1, z2, z3, z4, z5, zf⟩ := HQ1.out.zero
  have zf0 := zf 0
  have zf1 := zf 1
  have zf2 := zf 2
  have zf3 := zf 3
  have zf4 := zf 4
  have zf5 := zf 5
  clear zf
  go_wp2_with fail
  have HD := Lib.hid (HQ2.out.done (Nat.le_succ _) { x with x := (k1 : Int) })
  have HK := Lib.hid (putBox_block HQ2.out.rs { x with x := (k1 : Int) })
  refine bodyPost_ret (results_cell_row rfl _ _ (w.heap.size + 1) _ _ (0, 0) _ rfl HK.out Tryd.underlying55 rfl nodeInfo) rfl ?_
  exact ⟨rfl, HD.out⟩
set_option maxRecDepth 100000 in
set_option maxHeartbeats 4000000 in
theorem pRen_2 (B base bw bp bm c n : Nat) (A : Option Addr) (f : List Nd) (s s1 s2 : Wk) (k1 k2 : Nat) (x : Nd) (w : World) (hS : PW w base bw bp bm A c n s) (hR : Reads w B 6 A n (nds f))
    (hB1 : B ≤ bw) (hB2 : B ≤ bp) (hB4 : B ≤ bm) (hB3 : B ≤ base) (ho : shO x.op = 2)
    (HX : ∀ W, PW W base bw bp bm A c n s → Reads W B 6 A n (nds f) → Calls Tryd.prog 69 #[.pointer (some ⟨bw, 0, none⟩), .int .i64 x.x] W fun e W' => e = .returned (.int .i64 (k1 : Int)) ∧ PW W' base bw bp bm A c n s1 ∧ Fp bw bp bm W W')
    (HY : ∀ W, PW W base bw bp bm A c n s1 → Reads W B 6 A n (nds f) → Calls Tryd.prog 69 #[.pointer (some ⟨bw, 0, none⟩), .int .i64 x.y] W fun e W' => e = .returned (.int .i64 (k2 : Int)) ∧ PW W' base bw bp bm A c n s2 ∧ Fp bw bp bm W W') :
    Calls Tryd.prog 88 #[nv x, .func (Fn.func 69) #[.pointer (some ⟨bw, 0, none⟩)] #[]] w fun e w' =>
      e = .returned (nv { x with x := (k1 : Int), y := (k2 : Int) }) ∧ PW w' base bw bp bm A c n s2 ∧ Fp bw bp bm w w' := by
  have HS := Lib.hid hS
  have HR := Lib.hid hR
  have hB5 : B ≤ w.heap.size := Nat.le_trans hB3 hS.lb
  have HSH := Lib.hid (fun W => pShape_any x.op W)
  unfold shV shC at HSH
  rw [ho] at HSH
  replace HX := Lib.hid HX
  replace HY := Lib.hid HY
  unfold nv
  clear hS hR
  generalize shN x.op = q1 at *
  generalize shE x.op = q2 at *
  generalize shG x.op = q3 at *
  generalize known x.op = q4 at *
  clear ho
  go_enter Tryd.func88, Tryd.ntmps88
  go_wp2_with fail
  refine (HSH.out _).mono ?_
  rintro e w1 ⟨rfl, hb1⟩
  have HQ0 := Lib.hid (PQ.start HS.out HR.out hB5 x q1 q2 q3 2 hb1)
  clear hb1
  have hq3 := HQ0.out.cells
  obtain ⟨b0, b1, b2, b3, b4, b5, bf⟩ := HQ0.out.bx
  clear bf
  go_wp2_with fail
  clear hq3 b0 b1 b2 b3 b4 b5
  generalize w1.alloc (.cells #[.int .i64 q1, .int .i64 q2, .int .i64 q3, .int .i64 2] 95) = w2 at *
  generalize w1.heap.size = g2 at *
  refine (HX.out _ HQ0.out.st HQ0.out.rd).mono ?_
  rintro e w3 ⟨rfl, hS1, hF1⟩
  have HQ1 := Lib.hid (HQ0.out.step hS1 hF1 hB1 hB2 hB4 hB3)
  clear hS1 hF1
  have HQ2 := Lib.hid (HQ1.out.set (HQ1.out.bx.setX (k1 : Int)) hB5)
  obtain ⟨b0, b1, b2, b3, b4, b5, bf⟩ := HQ1.out.bx
  have bf4 := bf 4
  have hq3 := HQ1.out.cells
  have hn02 := HQ1.out.n02
  clear bf
  go_wp2_with fail
  clear hq3 bf4 b0 b1 b2 b3 b4 b5
  generalize w3.setCell ⟨w.heap.size, 4, none⟩ (.int .i64 (k1 : Int)) = w4 at *
  refine (HY.out _ HQ2.out.st HQ2.out.rd).mono ?_
  rintro e w5 ⟨rfl, hS1, hF1⟩
  have HQ3 := Lib.hid (HQ2.out.step hS1 hF1 hB1 hB2 hB4 hB3)
  clear hS1 hF1
  have HQ4 := Lib.hid (HQ3.out.set (HQ3.out.bx.setY (k2 : Int)) hB5)
  obtain ⟨b0, b1, b2, b3, b4, b5, bf⟩ := HQ3.out.bx
  have bf5 := bf 5
  clear bf
  obtain ⟨z0, z1, z2, z3, z4, z5, zf⟩ := HQ3.out.zero
  have zf0 := zf 0
  have zf1 := zf 1
  have zf2 := zf 2
  have zf3 := zf 3
  have zf4 := zf 4
  have zf5 := zf 5
  clear zf
  go_wp2_with fail
  have HD := Lib.hid (HQ4.out.done (Nat.le_succ _) { x with x := (k1 : Int), y := (k2 : Int) })
  have HK := Lib.hid (putBox_block HQ4.out.rs { x with x := (k1 : Int), y := (k2 : Int) })
  refine bodyPost_ret (results_cell_row rfl _ _ (w.heap.size + 1) _ _ (0, 0) _ rfl HK.out Tryd.underlying55 rfl nodeInfo) rfl ?_
  exact ⟨rfl, HD.out⟩
end Go.Proofs.YtopkmcoblndokaaDoor
