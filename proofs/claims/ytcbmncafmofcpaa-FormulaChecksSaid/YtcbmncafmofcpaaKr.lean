/- Layer 5: the program's walk: nodes as keys of a map, the state of the walk. -/
import Derived.Test.YtcbmncafmofcpaaKo
import Derived.Maps.OwnSet
import Derived.Maps.OwnOps
import Derived.Maps.Views
namespace Go.Proofs.Ytcbmncafmofcpaa
open Go.RowKit Go.Proofs.Ws Go.Maps
theorem nodeKT : Try.prog.keyType 44 = true := by kernel_rfl
theorem nodeSize : Try.prog.types.size = (Try.prog.types.size - 1) + 1 := by kernel_rfl
theorem nodeLaid : laidOutB Try.prog = true := by kernel_rfl
theorem nodeLaw : Keyed Try.prog 44 :=
  Keyed.of_law (deep_law_laid nodeLaid (m := 9999) (by omega) (of_decide_eq_true (by kernel_rfl)) (by kernel_rfl) (by kernel_rfl))
theorem nodeCells : Try.prog.cellsOf 44 = 6 := by kernel_rfl
theorem intCells : Try.prog.cellsOf 3 = 1 := by kernel_rfl
/-- the fields of a node are machine integers -/
structure NdW (n : Nd) : Prop where
  op : (Lit.int .i64 n.op).wf = true
  i : (Lit.int .i64 n.i).wf = true
  e : (Lit.int .i64 n.e).wf = true
  g : (Lit.int .i64 n.g).wf = true
  x : (Lit.int .i64 n.x).wf = true
  y : (Lit.int .i64 n.y).wf = true
def keyN (n : Nd) : Lit := .string (keyBytes [.int .i64 n.op, .int .i64 n.i, .int .i64 n.e, .int .i64 n.g, .int .i64 n.x, .int .i64 n.y])
theorem key_nd {n : Nd} (h : NdW n) : keyOf Try.prog 44 (nv n) = some (keyN n) := by
  obtain ⟨h0, h1, h2, h3, h4, h5⟩ := h
  unfold keyOf nv
  simp only [Try.underlying44]
  rw [if_pos (by rw [nodeKT]; simp [Value.formed, Try.underlying44]; kernel_rfl), nodeSize]
  unfold Program.keyLits
  simp only [Try.underlying44, Value.cells]
  rw [if_pos ⟨by rw [nodeCells]; rfl, by kernel_rfl⟩, List.mapM_cons, List.mapM_cons, List.mapM_cons, List.mapM_cons, List.mapM_cons, List.mapM_cons, List.mapM_nil]
  simp [intCells, Program.keyLits, Try.underlying3, h0, h1, h2, h3, h4, h5, keyN]
theorem keyN_inj {n m : Nd} (hn : NdW n) (hm : NdW m) (h : keyN n = keyN m) : n = m := by
  have := nodeLaw.inj (key_nd hn) (by rw [h]; exact key_nd hm)
  unfold nv at this
  injection this with h1
  simp at h1
  obtain ⟨e0, e1, e2, e3, e4, e5⟩ := h1
  cases n; cases m; simp at e0 e1 e2 e3 e4 e5; simp [e0, e1, e2, e3, e4, e5]
/-- the map gives each node of the list its number -/
structure MapOf (out : List Nd) (D : DataW Unit) : Prop where
  map : IsMap D
  wide : ∀ n ∈ out, NdW n
  there : ∀ n, NdW n → (Maps.has D (keyN n) = true ↔ n ∈ out)
  at_ : ∀ n ∈ out, D.atKey (keyN n) (.lit (.int .i64 0)) = .lit (.int .i64 (out.idxOf n : Int))
theorem MapOf.start : MapOf [] (.map []) where
  map := ⟨[], rfl⟩
  wide := fun n h => absurd h (by simp)
  there := fun n _ => ⟨fun h => by simp [Maps.has] at h, fun h => absurd h (by simp)⟩
  at_ := fun n h => absurd h (by simp)
theorem MapOf.put {out : List Nd} {D : DataW Unit} (h : MapOf out D) {n : Nd} (hn : NdW n) (hi : n ∉ out) : MapOf (out ++ [n]) (D.put (keyN n) (.lit (.int .i64 (out.length : Int)))) := by
  have hkey : WideAt.IsKeyLit (keyN n) := nodeLaw.key (key_nd hn)
  refine ⟨h.map.put _ _, fun m hm => ?_, fun m hm => ?_, fun m hm => ?_⟩
  · rcases List.mem_append.1 hm with hm | hm
    · exact h.wide m hm
    · rw [List.mem_singleton.1 hm]; exact hn
  · by_cases e : m = n
    · subst e
      rw [has_put_same h.map hkey]
      simp
    · rw [has_put_other (fun e2 => e (keyN_inj hm hn e2)), h.there m hm]
      simp [e]
  · by_cases e : m = n
    · subst e
      rw [atKey_put_same h.map hkey, List.idxOf_append, if_neg hi]
      simp
    · have hmo : m ∈ out := by
        rcases List.mem_append.1 hm with hm | hm
        · exact hm
        · exact absurd (List.mem_singleton.1 hm) e
      rw [atKey_put_other (fun e2 => e (keyN_inj (h.wide m hmo) hn e2)), h.at_ m hmo, List.idxOf_append, if_pos hmo]
def plV (d : Option Nat) : Value := .int .i64 (match d with | none => 0 | some k => ((k + 1 : Nat) : Int))
/-- the walk of the program at block bw: what it walks over, the numbers (plus 1) in block bp, the list (a row of its own), the map in block bm -/
structure PW (W : World) (base bw bp bm : Nat) (A : Option Addr) (c n : Nat) (s : Wk) : Prop where
  lw : bw < base
  lp : bp < base
  lm : bm < base
  n1 : bw ≠ bp
  n2 : bw ≠ bm
  n3 : bp ≠ bm
  lb : base ≤ W.heap.size
  frm : W.cell? ⟨bw, 0, none⟩ = some (.slice A n c)
  pl : W.cell? ⟨bw, 1, none⟩ = some (.slice (some ⟨bp, 0, none⟩) n n)
  out : ∃ A2 c2, W.cell? ⟨bw, 2, none⟩ = some (.slice A2 s.out.length c2) ∧ W.ownsRow base 44 6 (.slice A2 s.out.length c2) s.out.length (nds s.out)
  fout : W.frozen? ⟨bw, 2, none⟩ = false
  mp : W.cell? ⟨bw, 3, none⟩ = some (.map (some bm))
  map : ∃ D, W.ownsMap Try.prog 44 (plainElem (H := Unit) Try.prog 3) bm s.out.length D ∧ MapOf s.out D
  len : s.done.length = n
  cells : ∀ j, j < n → W.cell? ⟨bp, j, none⟩ = some (plV (s.done.getD j none))
  free : ∀ j, j < n → W.frozen? ⟨bp, j, none⟩ = false
def rowP (W : World) (bw : Nat) : Option Nat := match W.cell? ⟨bw, 2, none⟩ with | some v => v.ownBlock | none => none
theorem rowP_of {W : World} {bw : Nat} {v : Value} (h : W.cell? ⟨bw, 2, none⟩ = some v) : rowP W bw = v.ownBlock := by unfold rowP; rw [h]
theorem rowP_same {w w' : World} {bw : Nat} (h : w'.heap[bw]? = w.heap[bw]?) : rowP w' bw = rowP w bw := by unfold rowP; rw [World.cell?_of_block (a := ⟨bw, 2, none⟩) h]
/-- what a step of the program's walk leaves -/
structure Fp (bw bp bm : Nat) (w w' : World) : Prop where
  os : w'.os = w.os
  tape : w'.tape = w.tape
  output : w'.output = w.output
  size : w.heap.size ≤ w'.heap.size
  block : ∀ g, g < w.heap.size → g ≠ bw → g ≠ bp → g ≠ bm → some g ≠ rowP w bw → w'.heap[g]? = w.heap[g]?
  row : rowP w' bw = rowP w bw ∨ ∃ g, rowP w' bw = some g ∧ w.heap.size ≤ g
theorem Fp.of_below {w w' : World} {bw bp bm : Nat} (h : Below w.heap.size w w') (hb : bw < w.heap.size) : Fp bw bp bm w w' :=
  ⟨h.os, h.tape, h.output, h.size, fun g hg _ _ _ _ => h.block g hg, .inl (rowP_same (h.block bw hb))⟩
theorem Fp.trans {a b c : World} {bw bp bm : Nat} (h : Fp bw bp bm a b) (k : Fp bw bp bm b c) : Fp bw bp bm a c := by
  refine ⟨k.os.trans h.os, k.tape.trans h.tape, k.output.trans h.output, Nat.le_trans h.size k.size, fun g hg h1 h2 h3 h4 => ?_, ?_⟩
  · refine (k.block g (Nat.lt_of_lt_of_le hg h.size) h1 h2 h3 ?_).trans (h.block g hg h1 h2 h3 h4)
    rcases h.row with e | ⟨g2, e, hl⟩
    · rw [e]; exact h4
    · rw [e]; intro e2; injection e2; omega
  · rcases k.row with e | ⟨g2, e, hl⟩
    · rw [e]; exact h.row
    · exact .inr ⟨g2, e, Nat.le_trans h.size hl⟩
theorem Fp.low {bw bp bm : Nat} {w w' : World} (h : Fp bw bp bm w w') {B : Nat} (h0 : B ≤ w.heap.size) (h1 : B ≤ bw) (h2 : B ≤ bp) (h4 : B ≤ bm) (h3 : ∀ g, rowP w bw = some g → B ≤ g) : Below B w w' :=
  ⟨h.os, h.tape, h.output, h.size, fun g hg => h.block g (by omega) (by omega) (by omega) (by omega) (fun e => by have := h3 g e.symm; omega)⟩
theorem Fp.other {bw bp bm : Nat} {w W : World} (h : Fp bw bp bm w W) {g j : Nat} (v : Value) (h1 : w.heap.size ≤ g) (h2 : g ≠ bw) : Fp bw bp bm w (W.setCell ⟨g, j, none⟩ v) := by
  refine ⟨h.os, h.tape, h.output, by simpa using h.size, fun k hk a b c d => (Below.heap_setCell _ _ _ _ (by show k ≠ g; omega)).trans (h.block k hk a b c d), ?_⟩
  rw [rowP_same (Below.heap_setCell W ⟨g, j, none⟩ v bw h2.symm)]; exact h.row
theorem Fp.setP {bw bp bm : Nat} {w W : World} (h : Fp bw bp bm w W) {j : Nat} (v : Value) (hne : bw ≠ bp) : Fp bw bp bm w (W.setCell ⟨bp, j, none⟩ v) := by
  refine ⟨h.os, h.tape, h.output, by simpa using h.size, fun k hk a b c d => (Below.heap_setCell _ _ _ _ b).trans (h.block k hk a b c d), ?_⟩
  rw [rowP_same (Below.heap_setCell W ⟨bp, j, none⟩ v bw hne)]; exact h.row
theorem Fp.drewN {bw bp bm : Nat} {w W : World} (h : Fp bw bp bm w W) (k : Nat) : Fp bw bp bm w (W.drewN k) :=
  ⟨h.os, h.tape, h.output, h.size, h.block, h.row⟩
theorem ownsMap_keep {w w' : World} {P : Program} {t : TypeId} {R : Value → Option (DataW Unit × List MemPlace)} {B n : Nat} {D : DataW Unit} (h : w.ownsMap P t R B n D) (hb : w'.heap[B]? = w.heap[B]?) : w'.ownsMap P t R B n D := by
  obtain ⟨es, clock, h1, rest⟩ := h
  exact ⟨es, clock, hb.trans h1, rest⟩
theorem PW.row {W : World} {base bw bp bm c n : Nat} {A : Option Addr} {s : Wk} (h : PW W base bw bp bm A c n s) : ∀ g, rowP W bw = some g → base ≤ g ∧ g < W.heap.size := by
  obtain ⟨A2, c2, h1, h2⟩ := h.out
  intro g hg
  rw [rowP_of h1] at hg
  exact h2.lt g hg
theorem PW.keep {W W' : World} {base bw bp bm c n : Nat} {A : Option Addr} {s : Wk} (h : PW W base bw bp bm A c n s) (hs : W.heap.size ≤ W'.heap.size) (hw : W'.heap[bw]? = W.heap[bw]?) (hd : W'.heap[bp]? = W.heap[bp]?) (hm : W'.heap[bm]? = W.heap[bm]?)
    (hr : ∀ g, rowP W bw = some g → W'.heap[g]? = W.heap[g]?) : PW W' base bw bp bm A c n s := by
  obtain ⟨A2, c2, h1, h2⟩ := h.out
  obtain ⟨D, h5, h6⟩ := h.map
  have e : ∀ j, W'.cell? ⟨bw, j, none⟩ = W.cell? ⟨bw, j, none⟩ := fun j => World.cell?_of_block (a := ⟨bw, j, none⟩) hw
  exact ⟨h.lw, h.lp, h.lm, h.n1, h.n2, h.n3, Nat.le_trans h.lb hs, (e 0).trans h.frm, (e 1).trans h.pl, ⟨A2, c2, (e 2).trans h1, own_keep1 h2 (fun g hg => hr g (by rw [rowP_of h1]; exact hg))⟩,
    (World.frozen?_of_block (a := ⟨bw, 2, none⟩) hw).trans h.fout, (e 3).trans h.mp, ⟨D, ownsMap_keep h5 hm, h6⟩, h.len,
    fun j hj => (World.cell?_of_block (a := ⟨bp, j, none⟩) hd).trans (h.cells j hj), fun j hj => (World.frozen?_of_block (a := ⟨bp, j, none⟩) hd).trans (h.free j hj)⟩
theorem PW.below {W W' : World} {base bw bp bm c n : Nat} {A : Option Addr} {s : Wk} (h : PW W base bw bp bm A c n s) (hb : Below W.heap.size W W') : PW W' base bw bp bm A c n s := by
  have lw := h.lw
  have lp := h.lp
  have lm := h.lm
  have lb := h.lb
  exact h.keep hb.size (hb.block _ (by omega)) (hb.block _ (by omega)) (hb.block _ (by omega)) (fun g hg => hb.block g (h.row g hg).2)
theorem PW.drewN {W : World} {base bw bp bm c n : Nat} {A : Option Addr} {s : Wk} (h : PW W base bw bp bm A c n s) (k : Nat) : PW (W.drewN k) base bw bp bm A c n s :=
  h.keep (Nat.le_refl _) rfl rfl rfl (fun _ _ => rfl)
theorem PW.set {W : World} {base bw bp bm c n : Nat} {A : Option Addr} {s : Wk} (h : PW W base bw bp bm A c n s) {i : Nat} (hi : i < n) (k : Nat) : PW (W.setCell ⟨bp, i, none⟩ (.int .i64 ((k + 1 : Nat) : Int))) base bw bp bm A c n ⟨s.out, s.done.set i (some k)⟩ := by
  obtain ⟨A2, c2, h1, h2⟩ := h.out
  obtain ⟨D, h5, h6⟩ := h.map
  have hw : (W.setCell ⟨bp, i, none⟩ (.int .i64 ((k + 1 : Nat) : Int))).heap[bw]? = W.heap[bw]? := Below.heap_setCell _ _ _ _ h.n1
  have e : ∀ j, (W.setCell ⟨bp, i, none⟩ (.int .i64 ((k + 1 : Nat) : Int))).cell? ⟨bw, j, none⟩ = W.cell? ⟨bw, j, none⟩ := fun j => World.cell?_of_block (a := ⟨bw, j, none⟩) hw
  refine ⟨h.lw, h.lp, h.lm, h.n1, h.n2, h.n3, by simpa using h.lb, (e 0).trans h.frm, (e 1).trans h.pl, ⟨A2, c2, (e 2).trans h1, ownsRow_setCell_below h2 h.lp _⟩,
    (World.frozen?_of_block (a := ⟨bw, 2, none⟩) hw).trans h.fout, (e 3).trans h.mp, ⟨D, ownsMap_keep h5 (Below.heap_setCell _ _ _ _ h.n3.symm), h6⟩, by show (s.done.set i (some k)).length = n; rw [List.length_set, h.len],
    fun j hj => ?_, fun j hj => by rw [World.frozen?_setCell]; exact h.free j hj⟩
  show _ = some (plV ((s.done.set i (some k)).getD j none))
  rw [getD_set (by rw [h.len]; exact hi)]
  by_cases e : i = j
  · subst e
    rw [if_pos rfl]
    exact World.cell?_setCell_same W _ _ (h.cells i hi)
  · rw [if_neg e, World.cell?_setCell_other W ⟨bp, i, none⟩ ⟨bp, j, none⟩ _ (fun e2 => by have h9 := congrArg Addr.off e2; dsimp only at h9; omega)]
    exact h.cells j hj
/-- a block that is no part of the program's walk -/
structure Aside (W : World) (bw bp bm g : Nat) : Prop where
  lt : g < W.heap.size
  n1 : g ≠ bw
  n2 : g ≠ bp
  n3 : g ≠ bm
  row : some g ≠ rowP W bw
theorem Aside.step {W W' : World} {bw bp bm g : Nat} (h : Aside W bw bp bm g) (hF : Fp bw bp bm W W') : W'.heap[g]? = W.heap[g]? ∧ Aside W' bw bp bm g := by
  refine ⟨hF.block g h.lt h.n1 h.n2 h.n3 h.row, Nat.lt_of_lt_of_le h.lt hF.size, h.n1, h.n2, h.n3, ?_⟩
  rcases hF.row with e | ⟨k, e, hl⟩
  · rw [e]; exact h.row
  · rw [e]; intro e2; injection e2; have := h.lt; omega
theorem Aside.low {W W' : World} {bw bp bm g : Nat} (h : Aside W bw bp bm g) (hb : Below W.heap.size W W') (hw : bw < W.heap.size) : Aside W' bw bp bm g :=
  ⟨Nat.lt_of_lt_of_le h.lt hb.size, h.n1, h.n2, h.n3, by rw [rowP_same (hb.block bw hw)]; exact h.row⟩
theorem Aside.new {W W' : World} {base bw bp bm c n g : Nat} {A : Option Addr} {s : Wk} (hS : PW W base bw bp bm A c n s) (hb : Below W.heap.size W W') (h1 : W.heap.size ≤ g) (h2 : g < W'.heap.size) : Aside W' bw bp bm g := by
  have lw := hS.lw
  have lp := hS.lp
  have lm := hS.lm
  have lb := hS.lb
  refine ⟨h2, by omega, by omega, by omega, ?_⟩
  rw [rowP_same (hb.block bw (by omega))]
  intro e
  have := (hS.row g e.symm).2
  omega
theorem Aside.set {W : World} {bw bp bm g g2 j : Nat} (h : Aside W bw bp bm g) (hg : g2 ≠ bw) (v : Value) : Aside (W.setCell ⟨g2, j, none⟩ v) bw bp bm g :=
  ⟨by simpa using h.lt, h.n1, h.n2, h.n3, by rw [rowP_same (Below.heap_setCell W ⟨g2, j, none⟩ v bw hg.symm)]; exact h.row⟩
theorem PW.other {W : World} {base bw bp bm c n g j : Nat} {A : Option Addr} {s : Wk} (h : PW W base bw bp bm A c n s) (ha : Aside W bw bp bm g) (v : Value) : PW (W.setCell ⟨g, j, none⟩ v) base bw bp bm A c n s :=
  h.keep (by simp) (Below.heap_setCell _ _ _ _ ha.n1.symm) (Below.heap_setCell _ _ _ _ ha.n2.symm) (Below.heap_setCell _ _ _ _ ha.n3.symm) (fun k hk => Below.heap_setCell _ _ _ _ (fun e => ha.row (by rw [hk, e])))
/-- the three boxes of renumber: the node, its result, its shape -/
structure PQ (w W : World) (B base bw bp bm c n : Nat) (A : Option Addr) (f : List Nd) (s : Wk) (g0 g1 g2 : Nat) (x : Nd) (a1 a2 a3 a4 : Int) : Prop where
  st : PW W base bw bp bm A c n s
  rd : Reads W B 6 A n (nds f)
  bx : Box W g0 x
  rs : W.heap[g1]? = some (.cells #[.int .i64 0, .int .i64 0, .int .i64 0, .int .i64 0, .int .i64 0, .int .i64 0] 44 (0, 0))
  sh : W.heap[g2]? = some (.cells #[.int .i64 a1, .int .i64 a2, .int .i64 a3, .int .i64 a4] 72 (0, 0))
  fr : Fp bw bp bm w W
  a0 : Aside W bw bp bm g0
  a1 : Aside W bw bp bm g1
  a2 : Aside W bw bp bm g2
  l0 : w.heap.size ≤ g0
  n01 : g0 ≠ g1
  n02 : g0 ≠ g2
theorem PQ.step {w W W' : World} {B base bw bp bm c n : Nat} {A : Option Addr} {f : List Nd} {s s' : Wk} {g0 g1 g2 : Nat} {x : Nd} {a1 a2 a3 a4 : Int} (h : PQ w W B base bw bp bm c n A f s g0 g1 g2 x a1 a2 a3 a4)
    (hS : PW W' base bw bp bm A c n s') (hF : Fp bw bp bm W W') (hB1 : B ≤ bw) (hB2 : B ≤ bp) (hB4 : B ≤ bm) (hB3 : B ≤ base) : PQ w W' B base bw bp bm c n A f s' g0 g1 g2 x a1 a2 a3 a4 := by
  have lb := h.st.lb
  obtain ⟨e0, k0⟩ := h.a0.step hF
  obtain ⟨e1, k1⟩ := h.a1.step hF
  obtain ⟨e2, k2⟩ := h.a2.step hF
  exact ⟨hS, h.rd.below (hF.low (by omega) hB1 hB2 hB4 (fun g hg => by have := (h.st.row g hg).1; omega)), h.bx.keep e0, e1.trans h.rs, e2.trans h.sh, h.fr.trans hF, k0, k1, k2, h.l0, h.n01, h.n02⟩
theorem PQ.set {w W : World} {B base bw bp bm c n : Nat} {A : Option Addr} {f : List Nd} {s : Wk} {g0 g1 g2 j : Nat} {x x' : Nd} {a1 a2 a3 a4 : Int} {v : Value} (h : PQ w W B base bw bp bm c n A f s g0 g1 g2 x a1 a2 a3 a4)
    (hx : Box (W.setCell ⟨g0, j, none⟩ v) g0 x') (hB : B ≤ w.heap.size) : PQ w (W.setCell ⟨g0, j, none⟩ v) B base bw bp bm c n A f s g0 g1 g2 x' a1 a2 a3 a4 := by
  have l0 := h.l0
  exact ⟨h.st.other h.a0 v, h.rd.setCell (by show B ≤ g0; omega) v, hx, (Below.heap_setCell _ _ _ _ h.n01.symm).trans h.rs, (Below.heap_setCell _ _ _ _ h.n02.symm).trans h.sh, h.fr.other v h.l0 h.a0.n1,
    h.a0.set h.a0.n1 v, h.a1.set h.a0.n1 v, h.a2.set h.a0.n1 v, h.l0, h.n01, h.n02⟩
theorem PQ.cells {w W : World} {B base bw bp bm c n : Nat} {A : Option Addr} {f : List Nd} {s : Wk} {g0 g1 g2 : Nat} {x : Nd} {a1 a2 a3 a4 : Int} (h : PQ w W B base bw bp bm c n A f s g0 g1 g2 x a1 a2 a3 a4) : W.cell? ⟨g2, 3, none⟩ = some (.int .i64 a4) := Lib.cell_of_heap h.sh 3
theorem PQ.start {w w1 : World} {B base bw bp bm c n : Nat} {A : Option Addr} {f : List Nd} {s : Wk} (h : PW w base bw bp bm A c n s) (hR : Reads w B 6 A n (nds f)) (hB : B ≤ w.heap.size) (x : Nd) (a1 a2 a3 a4 : Int)
    (hb : Below ((w.alloc (.cells #[.int .i64 x.op, .int .i64 x.i, .int .i64 x.e, .int .i64 x.g, .int .i64 x.x, .int .i64 x.y] 44)).alloc (.cells #[.int .i64 0, .int .i64 0, .int .i64 0, .int .i64 0, .int .i64 0, .int .i64 0] 44)).heap.size
      ((w.alloc (.cells #[.int .i64 x.op, .int .i64 x.i, .int .i64 x.e, .int .i64 x.g, .int .i64 x.x, .int .i64 x.y] 44)).alloc (.cells #[.int .i64 0, .int .i64 0, .int .i64 0, .int .i64 0, .int .i64 0, .int .i64 0] 44)) w1) :
    PQ w (w1.alloc (.cells #[.int .i64 a1, .int .i64 a2, .int .i64 a3, .int .i64 a4] 72)) B base bw bp bm c n A f s w.heap.size (w.heap.size + 1) w1.heap.size x a1 a2 a3 a4 := by
  have hs1 : (w.alloc (.cells #[.int .i64 x.op, .int .i64 x.i, .int .i64 x.e, .int .i64 x.g, .int .i64 x.x, .int .i64 x.y] 44)).heap.size = w.heap.size + 1 := by simp
  have hbx := Box.made w x 44
  have hba : Below w.heap.size w (w.alloc (.cells #[.int .i64 x.op, .int .i64 x.i, .int .i64 x.e, .int .i64 x.g, .int .i64 x.x, .int .i64 x.y] 44)) := (Below.refl _ w).alloc (Nat.le_refl _) _
  generalize w.alloc (.cells #[.int .i64 x.op, .int .i64 x.i, .int .i64 x.e, .int .i64 x.g, .int .i64 x.x, .int .i64 x.y] 44) = wa at *
  have hs2 : (wa.alloc (.cells #[.int .i64 0, .int .i64 0, .int .i64 0, .int .i64 0, .int .i64 0, .int .i64 0] 44)).heap.size = w.heap.size + 2 := by simp; omega
  have hr0 := heap_alloc_new wa (.cells #[.int .i64 0, .int .i64 0, .int .i64 0, .int .i64 0, .int .i64 0, .int .i64 0] 44)
  have hbb : Below wa.heap.size wa (wa.alloc (.cells #[.int .i64 0, .int .i64 0, .int .i64 0, .int .i64 0, .int .i64 0, .int .i64 0] 44)) := (Below.refl _ wa).alloc (Nat.le_refl _) _
  generalize wa.alloc (.cells #[.int .i64 0, .int .i64 0, .int .i64 0, .int .i64 0, .int .i64 0, .int .i64 0] 44) = wb at *
  have hbc : Below w1.heap.size w1 (w1.alloc (.cells #[.int .i64 a1, .int .i64 a2, .int .i64 a3, .int .i64 a4] 72)) := (Below.refl _ w1).alloc (Nat.le_refl _) _
  have hsh := heap_alloc_new w1 (.cells #[.int .i64 a1, .int .i64 a2, .int .i64 a3, .int .i64 a4] 72)
  have hs3 : (w1.alloc (.cells #[.int .i64 a1, .int .i64 a2, .int .i64 a3, .int .i64 a4] 72)).heap.size = w1.heap.size + 1 := by simp
  generalize w1.alloc (.cells #[.int .i64 a1, .int .i64 a2, .int .i64 a3, .int .i64 a4] 72) = w2 at *
  have s1 := hb.size
  have lb := h.lb
  have lw := h.lw
  have hall : Below w.heap.size w w2 := (hba.trans (hbb.mono (by omega))).trans ((hb.mono (by omega)).trans (hbc.mono (by omega)))
  refine ⟨h.below hall, hR.below (hall.mono hB), hbx.keep ?_, ?_, hsh, Fp.of_below hall (by omega), Aside.new h hall (Nat.le_refl _) (by omega), Aside.new h hall (by omega) (by omega), Aside.new h hall (by omega) (by omega), Nat.le_refl _, by omega, by omega⟩
  · exact (hbc.block _ (by omega)).trans ((hb.block _ (by omega)).trans (hbb.block _ (by omega)))
  · rw [hs1] at hr0
    exact (hbc.block _ (by omega)).trans ((hb.block _ (by omega)).trans hr0)
/-- a node stored into a block -/
def putBox (W : World) (g : Nat) (x : Nd) : World := (((((W.setCell ⟨g, 0, none⟩ (.int .i64 x.op)).setCell ⟨g, 1, none⟩ (.int .i64 x.i)).setCell ⟨g, 2, none⟩ (.int .i64 x.e)).setCell ⟨g, 3, none⟩ (.int .i64 x.g)).setCell ⟨g, 4, none⟩ (.int .i64 x.x)).setCell ⟨g, 5, none⟩ (.int .i64 x.y)
theorem putBox_block {W : World} {g : Nat} {a b c d e f : Value} {t : TypeId} (h : W.heap[g]? = some (.cells #[a, b, c, d, e, f] t (0, 0))) (x : Nd) :
    (putBox W g x).heap[g]? = some (.cells #[.int .i64 x.op, .int .i64 x.i, .int .i64 x.e, .int .i64 x.g, .int .i64 x.x, .int .i64 x.y] t (0, 0)) := by
  unfold putBox
  simp [World.setCell, Array.getElem?_modify, h]
theorem PQ.done {w W : World} {B base bw bp bm c n : Nat} {A : Option Addr} {f : List Nd} {s : Wk} {g0 g1 g2 : Nat} {x : Nd} {a1 a2 a3 a4 : Int} (h : PQ w W B base bw bp bm c n A f s g0 g1 g2 x a1 a2 a3 a4) (hl : w.heap.size ≤ g1) (z : Nd) :
    PW (putBox W g1 z) base bw bp bm A c n s ∧ Fp bw bp bm w (putBox W g1 z) := by
  have a0 := h.a1
  have n1 := a0.n1
  have a1 := a0.set (j := 0) n1 (.int .i64 z.op)
  have a2 := a1.set (j := 1) n1 (.int .i64 z.i)
  have a3 := a2.set (j := 2) n1 (.int .i64 z.e)
  have a4 := a3.set (j := 3) n1 (.int .i64 z.g)
  have a5 := a4.set (j := 4) n1 (.int .i64 z.x)
  exact ⟨(((((h.st.other a0 _).other a1 _).other a2 _).other a3 _).other a4 _).other a5 _, (((((h.fr.other _ hl n1).other _ hl n1).other _ hl n1).other _ hl n1).other _ hl n1).other _ hl n1⟩
theorem PQ.zero {w W : World} {B base bw bp bm c n : Nat} {A : Option Addr} {f : List Nd} {s : Wk} {g0 g1 g2 : Nat} {x : Nd} {a1 a2 a3 a4 : Int} (h : PQ w W B base bw bp bm c n A f s g0 g1 g2 x a1 a2 a3 a4) :
    Box W g1 ⟨0, 0, 0, 0, 0, 0⟩ := by
  have := Lib.cell_of_heap h.rs
  exact ⟨this 0, this 1, this 2, this 3, this 4, this 5, fun j => Lib.frozen_of_heap h.rs j⟩
end Go.Proofs.Ytcbmncafmofcpaa
