/- Layer 6: texts joined: Kpd Nc Nd Ne. -/
import Derived.Test.YtjpmhbnikoggaaaDoorNJi
import Derived.Test.YtjpmhbnikoggaaaDoorNJm
import Derived.Lib.SlicesS
/- Layer 5 as plain mathematics: the text of a tree, and that it tells trees apart. -/
namespace Go.Proofs.Ws
open Go
end Go.Proofs.Ws
/- Layer 5: the text of a tree, as the law builds it. -/
namespace Go.Proofs.Ws
open Go
end Go.Proofs.Ws
/- Layer 5: the law's text of a tree. -/
namespace Go.Proofs.YtjpmhbnikoggaaaDoor
open Go.RowKit Go.Proofs.Ws Go.Maps
end Go.Proofs.YtjpmhbnikoggaaaDoor
/- Layer 5: what the law of trees asks of canonical lists; a row of truth values. -/
namespace Go.Proofs.Ws
open Go
end Go.Proofs.Ws
namespace Go.Proofs.YtjpmhbnikoggaaaDoor
open Go.RowKit Go.Proofs.Ws Go.Maps
/-- a block holds just these truth values -/
def bs (l : List Bool) : List Value := l.map Value.bool
def BS (W : World) (g : Nat) (l : List Bool) : Prop := W.heap[g]? = some (.cells (bs l).toArray 4 (0, 0))
theorem BS.cell {W : World} {g : Nat} {l : List Bool} (h : BS W g l) {k : Nat} (hk : k < l.length) : W.cell? ⟨g, k, none⟩ = some (.bool (l.getD k false)) := by
  rw [Lib.cell_of_heap h]
  simp [bs, hk]
theorem BS.free {W : World} {g : Nat} {l : List Bool} (h : BS W g l) (k : Nat) : W.frozen? ⟨g, k, none⟩ = false := Lib.frozen_of_heap h k
theorem BS.put {W : World} {g : Nat} {l : List Bool} (h : BS W g l) (k : Nat) (x : Bool) : BS (W.setCell ⟨g, k, none⟩ (.bool x)) g (l.set k x) := by
  unfold BS at h ⊢
  have e : (bs (l.set k x)).toArray = (bs l).toArray.setIfInBounds k (.bool x) := by
    unfold bs
    rw [List.map_set]
    simp
  rw [e]
  simp [World.setCell, Array.getElem?_modify, h]
theorem BS.keep {W W' : World} {g : Nat} {l : List Bool} (h : BS W g l) (hb : W'.heap[g]? = W.heap[g]?) : BS W' g l := hb.trans h
theorem Tryd.infoB : (Tryd.prog.info? 4).map (fun i => (i.zero, i.size, i.bytes)) = some (some (.bool false), 1, 1) := by kernel_rfl
def falses (n : Nat) : Array Value := (List.replicate n (Value.bool false)).toArray
theorem BS.made (w : World) (n : Nat) : BS (w.alloc (.cells (falses n) 4)) w.heap.size (List.replicate n false) := by
  have := heap_alloc_new w (.cells (falses n) 4)
  unfold BS
  rw [this]
  have e : (bs (List.replicate n false)).toArray = falses n := by simp [bs, falses]
  rw [e]
end Go.Proofs.YtjpmhbnikoggaaaDoor
