/- Layer 6: texts joined: Gm Gn Go Gp Gq Gr Gs Gu Gv Gw Gx. -/
import Derived.Test.YtkkkomkljpolbaaDoorNJj
import Derived.Test.YtkkkomkljpolbaaDoorNJl
import Derived.Test.YtkkkomkljpolbaaDoorNQq
import Derived.Test.YtkkkomkljpolbaaDoorNRa
import Derived.Test.YtkkkomkljpolbaaDoorCards
import Derived.Test.YtkkkomkljpolbaaDoorTie
import Derived.ProofKit
import Derived.OpenShut
import Derived.LaidMore
import Derived.Lay
import Derived.Lib.LaidU8
import Derived.Lib.SmallJoins
import Derived.SliceStrings
import Derived.Shelf.Vars
import Derived.Deep.DeepHandedRow
import Derived.Deep.DeepWitnessRowRef
import Derived.SevenTiedAt
import Derived.Deep.Slices
import Derived.Deep.Fields
import Derived.ChangeSame
/- Layer 8: substitution by the program. -/
namespace Go.Proofs.YtkkkomkljpolbaaDoor
open Go.RowKit Go.Proofs.Ws Go.Maps
set_option maxRecDepth 100000
/-- the error of the first list that has one -/
def lsErr : List (List Nd) → Int
  | [] => 0
  | g :: l => if fErr g = 0 then lsErr l else fErr g
def subFF (f : List Nd) (ls : List (List Nd)) : List Nd := if fErr f = 0 ∧ lsErr ls = 0 then resL (mapT (subR (ls.map tOf)) (tOf f)) else []
def subEE (f : List Nd) (ls : List (List Nd)) : Int := if fErr f = 0 then (if lsErr ls = 0 then resE (mapT (subR (ls.map tOf)) (tOf f)) else lsErr ls) else fErr f
/-- the state of a substitution: the builder, the boxes of its two variables, the lists -/
structure Su (B base bw bm bt bb : Nat) (At : Option Addr) (nt ct : Nat) (ls : List (List Nd)) (W : World) (o : List Nd) : Prop where
  bu : Bu B base bw bm W o
  at_ : AsideB W bw bm bt
  ab : AsideB W bw bm bb
  pt : W.cell? ⟨bt, 0, none⟩ = some (.slice At nt ct)
  pb : W.cell? ⟨bb, 0, none⟩ = some (.pointer (some ⟨bw, 0, none⟩))
  ls : LsR W B At nt ls
theorem Su.next {B base bw bm bt bb nt ct : Nat} {At : Option Addr} {ls : List (List Nd)} {W W' : World} {o o' : List Nd} (h : Su B base bw bm bt bb At nt ct ls W o) (hu : Bu B base bw bm W' o') (hF : Fb bw bm W W') : Su B base bw bm bt bb At nt ct ls W' o' := by
  have h1 := h.at_.step hF
  have h2 := h.ab.step hF
  exact ⟨hu, h1.2, h2.2, (World.cell?_of_block (a := ⟨bt, 0, none⟩) h1.1).trans h.pt, (World.cell?_of_block (a := ⟨bb, 0, none⟩) h2.1).trans h.pb, h.ls.below (h.bu.low hF) (Nat.le_refl _)⟩
theorem Su.below {B base bw bm bt bb nt ct : Nat} {At : Option Addr} {ls : List (List Nd)} {W W' : World} {o : List Nd} (h : Su B base bw bm bt bb At nt ct ls W o) (hb : Below W.heap.size W W') : Su B base bw bm bt bb At nt ct ls W' o :=
  h.next (h.bu.below hb) (Fb.of_below hb h.bu.lwB)
theorem Su.drew {B base bw bm bt bb nt ct : Nat} {At : Option Addr} {ls : List (List Nd)} {W : World} {o : List Nd} (h : Su B base bw bm bt bb At nt ct ls W o) : Su B base bw bm bt bb At nt ct ls W.drew o := h.below (Below.refl _ W).drew
theorem Su.ok {B base bw bm bt bb nt ct : Nat} {At : Option Addr} {ls : List (List Nd)} {w : World} (hB : B ≤ w.heap.size) (h1 : bt < w.heap.size) (h2 : bb < w.heap.size) : StOk (fun W o => Su B base bw bm bt bb At nt ct ls W o) w B base bw bm :=
  ⟨fun _ _ h => h.bu, fun _ _ _ h hb => h.below hb, fun W o G k v h hG ha => ⟨(Bu.ok hB).set W o G k v h.bu hG ha, h.at_.set ha.n1 v, h.ab.set ha.n1 v, (World.cell?_setCell_other _ _ _ _ (fun e2 => by have h9 := congrArg Addr.block e2; dsimp only at h9; omega)).trans h.pt,
    (World.cell?_setCell_other _ _ _ _ (fun e2 => by have h9 := congrArg Addr.block e2; dsimp only at h9; omega)).trans h.pb, h.ls.below ((Below.refl _ W).setCell (by show B ≤ G; omega) v) (Nat.le_refl _)⟩⟩
end Go.Proofs.YtkkkomkljpolbaaDoor
/- Layer 8: Subst. -/
namespace Go.Proofs.YtkkkomkljpolbaaDoor
open Go.RowKit Go.Proofs.Ws Go.Maps
set_option maxRecDepth 100000
end Go.Proofs.YtkkkomkljpolbaaDoor
/- Layer 8: the closure of a formula. -/
namespace Go.Proofs.YtkkkomkljpolbaaDoor
open Go.RowKit Go.Proofs.Ws Go.Maps
set_option maxRecDepth 100000
def appN (ls : List (List Nd)) (f : List Nd) : List (List Nd) := if f ∈ ls then ls else ls ++ [f]
theorem LL.slice {W : World} {b : Nat} {v : Value} {ls : List (List Nd)} (h : LL W b v ls) : ∃ A c, v = .slice A ls.length c ∧ (∀ k, k < ls.length → ∃ ad Aj cj, A = some ad ∧ W.cell? (ad.add k) = some (.slice Aj (ls.getD k []).length cj) ∧ W.ownsRow 0 62 6 (.slice Aj (ls.getD k []).length cj) (ls.getD k []).length (nds (ls.getD k []))) := by
  obtain ⟨vs, h1, h2⟩ := h.row
  have hs : ∃ A c, v = .slice A ls.length c := by
    rcases h1.2 with ⟨hv, hn⟩ | ⟨g, cap, cur, hv, _⟩
    · exact ⟨none, 0, by rw [hv, hn]⟩
    · exact ⟨_, _, hv⟩
  obtain ⟨A, c, rfl⟩ := hs
  refine ⟨A, c, rfl, fun k hk => ?_⟩
  obtain ⟨Aj, cj, e1, e2⟩ := h2 k hk
  obtain ⟨ad, u, h3, _, h5, h6⟩ := (Reads.of_own h1).at_ hk
  rw [e1] at h5
  injection h5 with h5
  exact ⟨ad, Aj, cj, h3, by rw [h6, h5], e2⟩
end Go.Proofs.YtkkkomkljpolbaaDoor
/- Layer 8: the reference's Fact, Not, Poss. -/
namespace Go.Proofs.YtkkkomkljpolbaaDoor
open Go.RowKit Go.Proofs.Ws Go.Maps
set_option maxRecDepth 100000
end Go.Proofs.YtkkkomkljpolbaaDoor
/- Layer 8: the examples of awake. -/
namespace Go.Proofs.Ws
open Go
end Go.Proofs.Ws
namespace Go.Proofs.YtkkkomkljpolbaaDoor
open Go.RowKit Go.Proofs.Ws Go.Maps
set_option maxRecDepth 100000
end Go.Proofs.YtkkkomkljpolbaaDoor
/- Layer 8: awake. -/
namespace Go.Proofs.YtkkkomkljpolbaaDoor
open Go.RowKit Go.Proofs.Ws Go.Maps
set_option maxRecDepth 100000
theorem up8 {W W' : World} {size n : Nat} {A : Option Addr} {xs : List Value} (h : Reads W W.heap.size size A n xs) (hb : Below W.heap.size W W') : Reads W' W'.heap.size size A n xs := (h.below hb).more hb.size
end Go.Proofs.YtkkkomkljpolbaaDoor
/- Layer 8: what the rows list, and what it gives the walks; a list of nodes that came in. -/
namespace Go.Proofs.YtkkkomkljpolbaaDoor.rwl
open Go.ChangeShapes Go.WideShapes Go.ChangeAt Go.RowKit Go.Proofs.Ws Go.Deep
set_option maxRecDepth 100000
def LL8 : List (String × DataW Unit) := Rows.rewriteSimplifyRow.laid
theorem own : ownKnob Tryd.prog.godebug = none := by kernel_rfl
theorem laidOut : laidOutB Tryd.prog = true := by kernel_rfl
theorem lt_of_cell {W : World} (a : Addr) (v : Value) (hv : W.cell? a = some v) : a.block < W.heap.size := by
  rcases Nat.lt_or_ge a.block W.heap.size with h' | h'
  · exact h'
  · simp [World.cell?, Array.getElem?_eq_none h'] at hv
def opsD : List Int := [0, 0, 0, 0, 1, 2, 2, 2, 2, 1, 1, 1, 1, 2, 2, 1, 2, 1, 1, 2, 1, 2]
def dlsD : List Int := [0, 2, 1, 0, 0, 6, 5, 0, 0, 10, 9, 0, 0, 0, 0, 0, 0, 0, 0, 0, 0, 0]
theorem opsD_eq : (Rows.laid_witting_rewrite_operands : DataW Unit) = .agg (opsD.map (fun k => .lit (.int .i64 k))) := by kernel_rfl
theorem dlsD_eq : (Rows.laid_witting_rewrite_duals : DataW Unit) = .agg (dlsD.map (fun k => .lit (.int .i64 k))) := by kernel_rfl
theorem ints_of {W : World} {name : String} {g : Nat} {l : List Int} (hg : Tryd.prog.globalNamed name = some g) (ht : (Tryd.prog.globals[g]?).map (·.type) = some 113) (hl22 : l.length = 22)
    (h : Lib.VarReads Tryd.prog W name (.agg (l.map (fun k => .lit (.int .i64 k))))) : ∀ k, k < 22 → W.cell? ⟨g, k, none⟩ = some (.int .i64 (l.getD k 0)) := by
  obtain ⟨g', t, cs, fuel, p, h1, h2, h3, h4⟩ := h
  obtain rfl := Option.some.inj (hg.symm.trans h1)
  obtain rfl := Option.some.inj (ht.symm.trans h2)
  have hcell := World.var?_cell hg h3
  obtain ⟨xs, m, rfl, hx, hl, hxl, hf⟩ := DataW.trod_array Tryd.underlying113 h4
  have hc : Tryd.prog.cellsOf 3 = 1 := by kernel_rfl
  have hc22 : Tryd.prog.cellsOf 113 = 22 := by kernel_rfl
  rw [hc] at hf
  rw [hc22] at hl
  simp only [Prod.mk.injEq, DataW.agg.injEq] at hx
  intro k hk
  have hfi := hf k hk
  rw [Nat.mul_one, List.drop_eq_getElem_cons (by omega), List.take_succ_cons, List.take_zero, List.getElem?_eq_getElem (by omega)] at hfi
  obtain ⟨z, hz, hz2, _⟩ := DataW.trod_int Tryd.underlying3 hfi
  have hd : (xs.map (·.1))[k]? = some (xs[k]).1 := by rw [List.getElem?_map, List.getElem?_eq_getElem (by omega)]; rfl
  rw [← hx.1, List.getElem?_map, List.getElem?_eq_getElem (by omega)] at hd
  simp only [Option.map_some, Option.some.injEq] at hd
  rw [hz2] at hd
  simp only [DataW.lit.injEq, Lit.int.injEq, true_and] at hd
  have h0 := hcell k
  rw [← Array.getElem?_toList, List.getElem?_eq_getElem (by omega)] at h0
  injection hz with hz
  have e : l.getD k 0 = z := by rw [List.getD_eq_getElem?_getD, List.getElem?_eq_getElem (by omega)]; exact hd
  rw [e, ← hz]
  exact h0
theorem env_of {W : World} (h : laidMetH Tryd.prog LL8 W) : EnvR W W.heap.size := by
  rw [MakeChecks.laidMetH_plain _ _ _ (by kernel_rfl)] at h
  have m1 : ("witting/rewrite.operands", (Rows.laid_witting_rewrite_operands : DataW Unit)) ∈ LL8 := by
    show _ ∈ [("witting/rewrite.operands", Rows.laid_witting_rewrite_operands), ("witting/rewrite.duals", Rows.laid_witting_rewrite_duals)]
    exact .head _
  have m2 : ("witting/rewrite.duals", (Rows.laid_witting_rewrite_duals : DataW Unit)) ∈ LL8 := by
    show _ ∈ [("witting/rewrite.operands", Rows.laid_witting_rewrite_operands), ("witting/rewrite.duals", Rows.laid_witting_rewrite_duals)]
    exact .tail _ (.head _)
  have r1 := Lib.laidMet.reads h m1
  have r2 := Lib.laidMet.reads h m2
  rw [opsD_eq] at r1
  rw [dlsD_eq] at r2
  have c1 := ints_of (g := 1) (by kernel_rfl) (by kernel_rfl) rfl r1
  have c2 := ints_of (g := 2) (by kernel_rfl) (by kernel_rfl) rfl r2
  have e1 : ∀ k : Nat, k < 22 → opsD.getD k 0 = shO (k : Int) := by decide
  have e2 : ∀ k : Nat, k < 22 → dlsD.getD k 0 = dualOf (k : Int) := by decide
  refine ⟨fun k hk => by rw [c1 k hk, e1 k hk], fun k hk => by rw [c2 k hk, e2 k hk], lt_of_cell ⟨1, 0, none⟩ _ (c1 0 (by omega)), lt_of_cell ⟨2, 0, none⟩ _ (c2 0 (by omega))⟩
noncomputable def laidW (os : Os) : World := World.laidAll Tryd.prog os LL8
theorem laidW_os (os : Os) : (laidW os).os = os := World.laidAll_os _ _ _
theorem laid_met (os : Os) (args : Array Value) : laidMet Tryd.prog LL8 ((laidW os).forCall (fun _ _ => 0) ⟨#[], args, []⟩).memory :=
  laidMet_laidAll _ (by kernel_rfl) (by kernel_rfl)
theorem vars_ok (os : Os) (args : Array Value) : ((laidW os).forCall (fun _ _ => 0) ⟨#[], args, []⟩).variablesRefB Tryd.prog = true := by kernel_rfl
theorem heap_ok (os : Os) (args : Array Value) : (((laidW os).forCall (fun _ _ => 0) ⟨#[], args, []⟩).heap.toList.drop Tryd.prog.globals.size).take ((begin Tryd.prog (fun _ _ => 0) default).world.heap.size - Tryd.prog.globals.size) =
      (begin Tryd.prog (fun _ _ => 0) default).world.heap.toList.drop Tryd.prog.globals.size := by kernel_rfl
theorem no_looks : false = Tryd.pinned.checked.prog.looks [] := by kernel_rfl
/-- what the row's opening says of a slice of nodes: it is nil, or its first elements are nodes -/
def NdRow (w : World) (a : Option Addr) (len cap : Nat) (l : List Nd) : Prop :=
  Reads w w.heap.size 6 a len (nds l) ∧ (∀ n ∈ l, NdW n) ∧ len ≤ cap ∧ len ≤ maxLen
section
variable {H : Type} {enc : TypeId × Value → H} {w : World} {base : Nat} {spare : Nat → Bool} {held : Bool}
theorem field_int {n' : Nat} {cs : List Value} {xs : List (DataW H × List MemPlace)} {j : Nat} (hl : cs.length = 6) (hj : j < 6) (hx : j < xs.length)
    (h : DataW.trod enc Tryd.prog w base spare held n' 3 ((cs.drop j).take (Tryd.prog.cellsOf 3)) = xs[j]?) : ∃ z : Int, cs[j]? = some (.int .i64 z) ∧ (Lit.int .i64 z).wf = true := by
  rw [intCells, List.drop_eq_getElem_cons (by omega), List.take_succ_cons, List.take_zero, List.getElem?_eq_getElem hx] at h
  obtain ⟨z, hz, _, hw⟩ := DataW.trod_int Tryd.underlying3 h
  refine ⟨z, ?_, hw⟩
  rw [List.getElem?_eq_getElem (by omega)]
  injection hz with hz
  rw [hz]
set_option maxRecDepth 100000 in
theorem one_node {n' : Nat} {cs : List Value} {x : DataW H × List MemPlace} (h : DataW.trod enc Tryd.prog w base spare held n' 62 cs = some x) : ∃ n : Nd, cs = ndC n ∧ NdW n := by
  obtain ⟨xs, m, _, _, hl, hxl, hf⟩ := DataW.trod_struct Tryd.underlying62 h
  rw [nodeCells] at hl
  have hx6 : xs.length = 6 := hxl
  obtain ⟨z0, c0, w0⟩ := field_int (j := 0) hl (by decide) (by omega) (hf 0 _ rfl)
  obtain ⟨z1, c1, w1⟩ := field_int (j := 1) hl (by decide) (by omega) (hf 1 _ rfl)
  obtain ⟨z2, c2, w2⟩ := field_int (j := 2) hl (by decide) (by omega) (hf 2 _ rfl)
  obtain ⟨z3, c3, w3⟩ := field_int (j := 3) hl (by decide) (by omega) (hf 3 _ rfl)
  obtain ⟨z4, c4, w4⟩ := field_int (j := 4) hl (by decide) (by omega) (hf 4 _ rfl)
  obtain ⟨z5, c5, w5⟩ := field_int (j := 5) hl (by decide) (by omega) (hf 5 _ rfl)
  refine ⟨⟨z0, z1, z2, z3, z4, z5⟩, ?_, ⟨w0, w1, w2, w3, w4, w5⟩⟩
  match cs, hl with
  | [a, b, c, d, e, f], _ =>
    simp at c0 c1 c2 c3 c4 c5
    simp [ndC, c0, c1, c2, c3, c4, c5]
theorem open_nodes {fuel : Nat} {A : Option Addr} {n c : Nat} {x : DataW H × List MemPlace} (h : DataW.trod enc Tryd.prog w base spare held fuel 22 [.slice A n c] = some x) : ∃ l, NdRow w A n c l := by
  rcases open_slice Tryd.underlying22 h with ⟨hcs, _⟩ | ⟨a, len, cap, m, n', D, Pl, hcs, hb, hl, hm, hmm, _, hi⟩
  · simp at hcs
    obtain ⟨rfl, rfl, rfl⟩ := hcs
    exact ⟨[], Reads.none_, fun n hn => absurd hn (by simp), Nat.le_refl _, Nat.zero_le _⟩
  · simp at hcs
    obtain ⟨rfl, rfl, rfl⟩ := hcs
    have hlm : n ≤ m := by rw [hmm]; split <;> omega
    have hex : ∀ i, i < n → ∃ nd : Nd, (∀ j, j < 6 → w.cell? (a.add (i * 6 + j)) = (ndC nd)[j]?) ∧ NdW nd := fun i hin => by
      obtain ⟨cs', h1, h2⟩ := hi i (by omega)
      obtain ⟨nd, hc, hw⟩ := one_node h2
      obtain ⟨_, _, h3⟩ := World.cells?_some h1
      rw [nodeCells] at h3
      refine ⟨nd, fun j hj => ?_, hw⟩
      have := h3 j hj
      rw [add_of_add, hc] at this
      exact this
    obtain ⟨g, hg⟩ : ∃ g : Nat → Nd, ∀ i, i < n → (∀ j, j < 6 → w.cell? (a.add (i * 6 + j)) = (ndC (g i))[j]?) ∧ NdW (g i) :=
      ⟨fun i => if hi : i < n then Classical.choose (hex i hi) else nd0, fun i hin => by dsimp only; rw [dif_pos hin]; exact Classical.choose_spec (hex i hin)⟩
    refine ⟨(List.range n).map g, ⟨by rw [nds_length]; simp, fun h0 => ⟨a, rfl, ?_, fun j u hu => ?_⟩⟩, fun nd hn => ?_, hl, by omega⟩
    · have h1 := (hg 0 h0).1 0 (by decide)
      rw [show (0 : Nat) * 6 + 0 = 0 from rfl] at h1
      rcases Nat.lt_or_ge (a.add 0).block w.heap.size with h' | h'
      · rwa [block_of_add] at h'
      · simp [World.cell?, Array.getElem?_eq_none h', ndC] at h1
    · have hj : j < n * 6 := by
        have := (List.getElem?_eq_some_iff.1 hu).1
        rw [nds_length] at this
        simpa using this
      have hq := nds_at ((List.range n).map g) (j / 6) (j % 6) (by simp; omega) (by omega)
      rw [show j / 6 * 6 + j % 6 = j from by omega] at hq
      have hgd : ((List.range n).map g).getD (j / 6) nd0 = g (j / 6) := by simp [show j / 6 < n by omega]
      rw [hgd] at hq
      rw [hu] at hq
      have h1 := (hg (j / 6) (by omega)).1 (j % 6) (by omega)
      rw [show j / 6 * 6 + j % 6 = j from by omega] at h1
      rw [h1, ← hq]
    · obtain ⟨i, hin, rfl⟩ := List.mem_map.1 hn
      exact (hg i (List.mem_range.1 hin)).2
end
end Go.Proofs.YtkkkomkljpolbaaDoor.rwl
/- Layer 8: the builders of the reference return rows of their own. -/
namespace Go.Proofs.YtkkkomkljpolbaaDoor
open Go.RowKit Go.Proofs.Ws Go.Maps
end Go.Proofs.YtkkkomkljpolbaaDoor
/- Layer 8: the mathematics of the reference's Rebuild and Subst. -/
namespace Go.Proofs.YtkkkomkljpolbaaDoor
open Go Go.Proofs.Ws
/-- a node and the results of its operands -/
def rebF (n : Nd) (a b : List Nd) : List Nd := if usesY n.op = true then binaryF (bare n) a b else if usesX n.op = true then unaryF (bare n) a else oneF (bare n)
/-- what the reference's Subst lays at a place -/
def subI (c : List Nd) (to l : List (List Nd)) (k : Nat) : List Nd :=
  if (c.getD k nd0).op = 3 ∧ (c.getD k nd0).i < (to.length : Int) then compF (to.getD (c.getD k nd0).i.toNat [])
  else rebF (c.getD k nd0) (if usesX (c.getD k nd0).op = true then l.getD (c.getD k nd0).x.toNat [] else []) (if usesY (c.getD k nd0).op = true then l.getD (c.getD k nd0).y.toNat [] else [])
def subLs (c : List Nd) (to : List (List Nd)) : Nat → List (List Nd)
  | 0 => []
  | k + 1 => subLs c to k ++ [subI c to (subLs c to k) k]
end Go.Proofs.YtkkkomkljpolbaaDoor
/- Layer 8: the reference's Rebuild and done. -/
namespace Go.Proofs.YtkkkomkljpolbaaDoor
open Go.RowKit Go.Proofs.Ws Go.Maps
set_option maxRecDepth 100000
end Go.Proofs.YtkkkomkljpolbaaDoor
/- Layer 8: the reference's Subst. -/
namespace Go.Proofs.YtkkkomkljpolbaaDoor
open Go.RowKit Go.Proofs.Ws Go.Maps
set_option maxRecDepth 100000
theorem LL.at_ {W : World} {b : Nat} {v : Value} {ls : List (List Nd)} (h : LL W b v ls) {n : Nat} (hn : ls.length = n) : ∃ A c, v = .slice A n c ∧ ∀ k, k < n → ∃ ad Aj cj, A = some ad ∧ W.cell? (ad.add k) = some (.slice Aj (ls.getD k []).length cj) ∧ Reads W W.heap.size 6 Aj (ls.getD k []).length (nds (ls.getD k [])) := by
  subst hn
  obtain ⟨A, c, e, h2⟩ := h.slice
  refine ⟨A, c, e, fun k hk => ?_⟩
  obtain ⟨ad, Aj, cj, h3, h4, h5⟩ := h2 k hk
  exact ⟨ad, Aj, cj, h3, h4, Reads.of_own h5⟩
/-- what the reference's Subst lays for a formula and formulas in order -/
structure SubR (f : List Nd) (ls : List (List Nd)) (q : List Nd) : Prop where
  ok : OkL q
  kn : knownL q
  fld : ∀ n ∈ q, fldOk n
  len : q.length ≤ 200
  short : ∀ k, k ≤ q.length → ∀ j, j < k → ((subLs q ls k).getD j []).length ≤ 200
  last : (subLs q ls q.length).getD (q.length - 1) [] = subFF f ls
  err : subEE f ls = if subFF f ls = [] then 8 else 0
end Go.Proofs.YtkkkomkljpolbaaDoor
