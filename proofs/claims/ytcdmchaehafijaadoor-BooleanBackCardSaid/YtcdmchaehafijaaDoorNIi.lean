/- Layer 6: texts joined: Ii Ij Ik. -/
import Derived.Test.YtcdmchaehafijaaDoorNIg
import Derived.Test.YtcdmchaehafijaaDoorNJi
import Derived.Sort.Grow
import Derived.Shelf.SlSortCmp.InsertionK
import Derived.Shelf.SlSortCmp.WholeK
import Derived.Shelf.SlSortCmp.NoneTotal
import Derived.Shelf.Lay
import Derived.Ground.SlsfProg
/- Layer 9: the order of cubes. -/
namespace Go.Proofs.YtcdmchaehafijaaDoor
open Go.RowKit Go.Proofs.Ws Go.Maps
set_option maxRecDepth 100000
def encC (c : Nat × Nat) : List Value := [.int .i64 (c.1 : Int), .int .i64 (c.2 : Int)]
def cfC (a b : Nat × Nat) : Int := firstNZ [cmpI (a.1 : Int) (b.1 : Int), cmpI (a.2 : Int) (b.2 : Int)]
set_option maxHeartbeats 4000000 in
theorem cmpC_any (a b : Nat × Nat) (w : World) : Calls Tryd.prog 49 #[.agg #[.int .i64 (a.1 : Int), .int .i64 (a.2 : Int)], .agg #[.int .i64 (b.1 : Int), .int .i64 (b.2 : Int)]] w fun e w' => e = .returned (.int .i64 (cfC a b)) ∧ ∃ q os', w' = Go.Sort.grow (w.drewN q) os' := by
  have hh1 := heap_alloc_new w (.cells #[.int .i64 (a.1 : Int), .int .i64 (a.2 : Int)] 51)
  have hs1 : (w.alloc (.cells #[.int .i64 (a.1 : Int), .int .i64 (a.2 : Int)] 51)).heap.size = w.heap.size + 1 := by simp
  have hh2 := heap_alloc_new (w.alloc (.cells #[.int .i64 (a.1 : Int), .int .i64 (a.2 : Int)] 51)) (.cells #[.int .i64 (b.1 : Int), .int .i64 (b.2 : Int)] 51)
  rw [hs1] at hh2
  have hh3 := (Below.heap_alloc (w.alloc (.cells #[.int .i64 (a.1 : Int), .int .i64 (a.2 : Int)] 51)) (.cells #[.int .i64 (b.1 : Int), .int .i64 (b.2 : Int)] 51) w.heap.size (by rw [hs1]; omega)).trans hh1
  have HW : Hid (∃ os, ((w.alloc (.cells #[.int .i64 (a.1 : Int), .int .i64 (a.2 : Int)] 51)).alloc (.cells #[.int .i64 (b.1 : Int), .int .i64 (b.2 : Int)] 51)) = Go.Sort.grow w os) := Lib.hid ⟨_, by rw [Go.Sort.alloc_eq_grow, Go.Sort.alloc_eq_grow, Go.Sort.grow_grow]⟩
  have HC := Lib.hid (fun p q W => cmpInt_any p q W)
  have HO : Hid (∀ (W : World) (p0 p1 : Int), Calls Tryd.prog 69 #[.slice (some ⟨W.heap.size, 0, none⟩) 2 2] (W.alloc (.cells #[.int .i64 p0, .int .i64 p1] 3)).drew fun e w' => e = .returned (.int .i64 (firstNZ [p0, p1])) ∧ (W.alloc (.cells #[.int .i64 p0, .int .i64 p1] 3)).drew = w') := Lib.hid (fun W p0 p1 => by
    refine or_any [p0, p1] _ 2 2 _ ⟨rfl, fun _ => ⟨_, rfl, by simp, fun j u hj => ?_⟩⟩ (by decide)
    have hh := heap_alloc_new W (.cells #[.int .i64 p0, .int .i64 p1] 3)
    rw [addr_zero]
    show (W.alloc _).cell? _ = _
    rw [Lib.cell_of_heap hh, ← hj]
    simp [is])
  clear hh1 hs1
  go_enter Tryd.func49, Tryd.ntmps49
  go_wp2_with fail
  generalize ((w.alloc (.cells #[.int .i64 (a.1 : Int), .int .i64 (a.2 : Int)] 51)).alloc (.cells #[.int .i64 (b.1 : Int), .int .i64 (b.2 : Int)] 51)) = w1 at *
  have x0 : w1.cell? ⟨w.heap.size, 0, none⟩ = some (.int .i64 (a.1 : Int)) := Lib.cell_of_heap hh3 0
  have x1 : w1.cell? ⟨w.heap.size, 1, none⟩ = some (.int .i64 (a.2 : Int)) := Lib.cell_of_heap hh3 1
  have y0 : w1.cell? ⟨w.heap.size + 1, 0, none⟩ = some (.int .i64 (b.1 : Int)) := Lib.cell_of_heap hh2 0
  have y1 : w1.cell? ⟨w.heap.size + 1, 1, none⟩ = some (.int .i64 (b.2 : Int)) := Lib.cell_of_heap hh2 1
  clear hh2 hh3
  go_region_held3 (fun W => (W.cell? ⟨w.heap.size, 0, none⟩ = some (.int .i64 (a.1 : Int)) ∧ W.cell? ⟨w.heap.size, 1, none⟩ = some (.int .i64 (a.2 : Int)) ∧ W.cell? ⟨w.heap.size + 1, 0, none⟩ = some (.int .i64 (b.1 : Int)) ∧ W.cell? ⟨w.heap.size + 1, 1, none⟩ = some (.int .i64 (b.2 : Int))))
    (first | assumption | go_keep)
    (first
      | (go_at_call 70; refine (HC.out _ _ _).mono ?_; rintro e W' ⟨rfl, rfl⟩)
      | (go_at_call 69; refine (HO.out _ _ _).mono ?_; rintro e W' ⟨rfl, rfl⟩))
  all_goals go_wp2
  all_goals go_ret
  all_goals
    refine ⟨rfl, ?_⟩
    obtain ⟨os, e⟩ := HW.out
    rw [e]
    exact ⟨1, os.push _, by rw [Go.Sort.alloc_eq_grow, Go.Sort.grow_grow]; rfl⟩
end Go.Proofs.YtcdmchaehafijaaDoor
/- Layer 9: cubes sorted by the library. -/
namespace Go.Proofs.YtcdmchaehafijaaDoor
open Go.RowKit Go.Proofs.Ws Go.Maps Go.Sort
set_option maxRecDepth 100000
instance decCLt (a b : Nat × Nat) : Decidable (cLt a b) := by unfold cLt; infer_instance
theorem lt_cb (x y : Nat × Nat) : ltOf cfC x y = decide (cLt x y) := by
  unfold ltOf cfC
  have h : ∀ a b : Int, cmpI a b = if a < b then -1 else if b < a then 1 else 0 := fun a b => rfl
  have hf : ∀ a b : Int, firstNZ [a, b] = if a ≠ 0 then a else if b ≠ 0 then b else 0 := fun a b => rfl
  rw [hf, h, h]
  congr 1
  unfold cLt
  apply propext
  by_cases h1 : x.1 < y.1
  · rw [if_pos (show (x.1 : Int) < y.1 by omega), if_pos (by decide)]
    simp [h1]
  · by_cases h2 : y.1 < x.1
    · rw [if_neg (show ¬ (x.1 : Int) < y.1 by omega), if_pos (show (y.1 : Int) < x.1 by omega), if_pos (by decide)]
      constructor
      · intro h; cases h
      · rintro (h | h) <;> omega
    · rw [if_neg (show ¬ (x.1 : Int) < y.1 by omega), if_neg (show ¬ (y.1 : Int) < x.1 by omega), if_neg (by simp)]
      by_cases h3 : x.2 < y.2
      · rw [if_pos (show (x.2 : Int) < y.2 by omega), if_pos (by decide)]
        constructor
        · intro _; right; omega
        · intro _; decide
      · by_cases h4 : y.2 < x.2
        · rw [if_neg (show ¬ (x.2 : Int) < y.2 by omega), if_pos (show (y.2 : Int) < x.2 by omega), if_pos (by decide)]
          constructor
          · intro h; cases h
          · rintro (h | h) <;> omega
        · rw [if_neg (show ¬ (x.2 : Int) < y.2 by omega), if_neg (show ¬ (y.2 : Int) < x.2 by omega), if_neg (by simp)]
          constructor
          · intro h; cases h
          · rintro (h | h) <;> omega
theorem swo_cb : SWO (ltOf cfC) where
  irrefl x := by rw [lt_cb]; exact decide_eq_false (cLt_irrefl x)
  trans x y z h1 h2 := by
    rw [lt_cb] at *
    exact decide_eq_true (cLt_trans (of_decide_eq_true h1) (of_decide_eq_true h2))
  ntrans x y z h1 h2 := by
    rw [lt_cb] at *
    have k1 := of_decide_eq_false h1
    have k2 := of_decide_eq_false h2
    refine decide_eq_false (fun h => ?_)
    unfold cLt at *
    omega
theorem cmpLaysC (blk off size : Nat) (w : World) : CmpLays Tryd.prog 49 #[] encC 2 cfC blk off size w := fun _ _ _ _ x y => cmpC_any x y _
theorem cbs_cons (c : Nat × Nat) (l : List (Nat × Nat)) : cbs (c :: l) = .int .i64 (c.1 : Int) :: .int .i64 (c.2 : Int) :: cbs l := rfl
theorem cbs_len (l : List (Nat × Nat)) : (cbs l).length = l.length * 2 := by
  induction l with
  | nil => rfl
  | cons c l ih => rw [cbs_cons, List.length_cons, List.length_cons, ih, List.length_cons]; omega
theorem cbs_at : ∀ (l : List (Nat × Nat)) (t : Nat), t < l.length * 2 → (cbs l)[t]? = some ((encC (l.getD (t / 2) (0, 0)))[t % 2]!)
  | [], t, h => absurd h (by simp)
  | c :: l, 0, _ => rfl
  | c :: l, 1, _ => rfl
  | c :: l, t + 2, h => by
    rw [cbs_cons]
    show (cbs l)[t]? = _
    rw [cbs_at l t (by simp at h; omega), show (t + 2) / 2 = t / 2 + 1 by omega, show (t + 2) % 2 = t % 2 by omega]
    rfl
theorem flat_cbs (l : List (Nat × Nat)) : flatK encC 2 l.toArray = (cbs l).toArray := by
  apply Array.ext_getElem?
  intro t
  by_cases h : t < l.length * 2
  · have h1 := get_flatK encC 2 l.toArray t (by simpa using h)
    have hs : t < (flatK encC 2 l.toArray).size := by simpa using h
    rw [getElem!_pos _ t hs] at h1
    rw [Array.getElem?_eq_getElem hs, h1]
    have h2 := cbs_at l t h
    rw [List.getElem?_toArray, h2]
    have h3 : t / 2 < l.length := by omega
    rw [List.getD_eq_getElem?_getD, List.getElem?_eq_getElem h3]
    congr 3
    simp [getElem!_pos, h3]
  · rw [Array.getElem?_eq_none (by simpa using h), Array.getElem?_eq_none (by simp [cbs_len]; omega)]
theorem holds_cb {w : World} {g : Nat} {cur : Array Value} {e : TypeId} {l : List (Nat × Nat)} (hb : w.heap[g]? = some (.cells cur e (0, 0))) (ht : cur.toList.take (l.length * 2) = cbs l) : HoldsK encC 2 w g 0 l.toArray := by
  unfold HoldsK
  rw [flat_cbs]
  intro j hj
  have hj' : j < l.length * 2 := by simpa [cbs_len] using hj
  refine ⟨?_, by simp [World.frozen?, hb]⟩
  have h1 : (cur.toList.take (l.length * 2))[j]? = (cbs l)[j]? := by rw [ht]
  rw [List.getElem?_take_of_lt hj'] at h1
  simp only [World.cell?, hb, Nat.zero_add]
  simp only [Option.isSome_none, Bool.false_eq_true, if_false]
  rw [← Array.getElem?_toList, h1]
  simp [getElem!_pos, cbs_len, hj']
theorem heap_sortedC {w : World} {g n : Nat} {os : Array Obj} {cur : Array Value} {e : TypeId} {fr : Nat × Nat} (d : Array (Nat × Nat)) (hb : w.heap[g]? = some (.cells cur e fr)) :
    (sortWorldK encC 2 w g 0 n d os).heap[g]? = some (.cells (putCells id 0 (flatK encC 2 d) cur) e fr) := by
  have hg : g < w.heap.size := (Array.getElem?_eq_some_iff.1 hb).1
  unfold sortWorldK putRowK
  rw [heap_grow_old _ _ (by simpa using hg)]
  simp [putRow, mapBlock, Sort.ahead, Array.getElem?_modify, hb, onCells]
theorem grownBy_sortedC {w : World} {g n : Nat} {os : Array Obj} (d : Array (Nat × Nat)) : w.grownBy (sortWorldK encC 2 w g 0 n d os) (some g) := by
  unfold sortWorldK putRowK
  refine ⟨rfl, rfl, rfl, by simp, fun k hk hne => ?_⟩
  rw [heap_grow_old _ _ (by simpa using hk)]
  have : g ≠ k := fun e => hne (by rw [e])
  simp [putRow, mapBlock, Sort.ahead, Array.getElem?_modify, this]
theorem take_putC (cur : Array Value) (l : List (Nat × Nat)) (h : l.length * 2 ≤ cur.size) : (putCells id 0 (flatK encC 2 l.toArray) cur).toList.take (l.length * 2) = cbs l := by
  rw [flat_cbs]
  apply List.ext_getElem?
  intro j
  by_cases hj : j < l.length * 2
  · rw [List.getElem?_take_of_lt hj, Array.getElem?_toList]
    simp [putCells, cbs_len, hj, show j < cur.size by omega]
  · rw [List.getElem?_take_eq_none (by omega), List.getElem?_eq_none (by rw [cbs_len]; omega)]
theorem cLt_tri {a b : Nat × Nat} (h : ¬ cLt b a) (hne : a ≠ b) : cLt a b := by
  unfold cLt at *
  rcases Nat.lt_trichotomy a.1 b.1 with h1 | h1 | h1
  · exact .inl h1
  · rcases Nat.lt_trichotomy a.2 b.2 with h2 | h2 | h2
    · exact .inr ⟨h1, h2⟩
    · exact absurd (Prod.ext h1 h2) hne
    · exact absurd (.inr ⟨h1.symm, h2⟩) h
  · exact absurd (.inl h1) h
theorem sorted_cb {l : List (Nat × Nat)} {d : Array (Nat × Nat)} (hn : l.Nodup) (hp : PermIn 0 l.toArray.size l.toArray d) (hs : SortedIn (ltOf cfC) 0 l.toArray.size d) : d.toList.Pairwise cLt ∧ (∀ x, x ∈ d.toList ↔ x ∈ l) ∧ d.toList.length = l.length := by
  obtain ⟨hsz, _, hperm⟩ := hp
  have hsz2 : d.size = l.length := by simpa using hsz
  have hpm : d.toList.Perm l := by
    have : (d.extract 0 l.toArray.size).toList = d.toList := by simp [← hsz2]
    rw [this] at hperm
    simpa using hperm
  refine ⟨?_, fun x => hpm.mem_iff, by simpa using hsz2⟩
  have hnd : d.toList.Nodup := hpm.nodup_iff.2 hn
  rw [List.pairwise_iff_getElem]
  intro i j hi hj hij
  have hi2 : i < d.size := by simpa using hi
  have hj2 : j < d.size := by simpa using hj
  have h1 := hs i j (Nat.zero_le _) hij (by simpa [hsz2] using hj2)
  rw [getElem!_pos d j hj2, getElem!_pos d i hi2, lt_cb] at h1
  refine cLt_tri (of_decide_eq_false h1) (fun e => ?_)
  have := List.pairwise_iff_getElem.1 hnd i j hi hj hij
  exact this e
end Go.Proofs.YtcdmchaehafijaaDoor
/- Layer 9: the library's sort of cubes. -/
namespace Go.Proofs
open Go.Shelf
shelf_lay_g SlLaysF0.n6 Slsf 6 at Tryd 48 as Tryd.sortCb
end Go.Proofs
namespace Go.Proofs.YtcdmchaehafijaaDoor
open Go.RowKit Go.Proofs.Ws Go.Maps Go.Sort
set_option maxRecDepth 100000
set_option maxHeartbeats 1000000 in
theorem sortC_any (l : List (Nat × Nat)) (base : Nat) (A : Option Addr) (c : Nat) (w : World) (ho : w.ownsRow base 51 2 (.slice A l.length c) l.length (cbs l)) (hn : l.Nodup) (hlen : l.length ≤ 1000000) (hne : l ≠ []) :
    Calls Tryd.prog 48 #[.slice A l.length c, .func (.func 49) #[] #[]] w fun e w' => e = .returned (.tuple #[]) ∧ ∃ l', l'.Pairwise cLt ∧ (∀ x, x ∈ l' ↔ x ∈ l) ∧ l'.length = l.length ∧ w'.ownsRow base 51 2 (.slice A l.length c) l.length (cbs l') ∧ w.grownBy w' (Value.slice A l.length c).ownBlock := by
  rcases ho.2 with ⟨_, h0⟩ | ⟨g, cap, cur, hv, hbase, hb, h1, h2, h3, h4⟩
  · exact absurd (List.length_eq_zero_iff.1 h0) hne
  · injection hv with e1 _ e3
    subst e1
    subst e3
    have eg : ∀ args w, (callFunc 49 args).run Tryd.prog w = .ok (.enter 49 args) w := enters_of Tryd.func49 (by kernel_rfl) rfl
    have hcon := AnyQ.slices_SortFunc Tryd.sortCb 2 Tryd.isAgg51 Tryd.sizeOf51 encC (fun _ => rfl) (fun x v hv => by simp [encC] at hv; rcases hv with rfl | rfl <;> rfl) cfC swo_cb 49 #[] g 0 c l.toArray w eg (cmpLaysC g 0 l.toArray.size w) (holds_cb hb h4) (Array.getElem?_eq_some_iff.1 hb).1 (by simp; omega)
    change Calls Tryd.prog 48 _ _ _ at hcon
    refine hcon.mono ?_
    rintro e w' ⟨rfl, d', n, os, hp, hs, rfl⟩
    obtain ⟨k1, k2, k3⟩ := sorted_cb hn hp hs
    refine ⟨rfl, d'.toList, k1, k2, k3, ?_, grownBy_sortedC d'⟩
    refine ⟨by rw [cbs_len, k3], .inr ⟨g, c, _, rfl, hbase, heap_sortedC d' hb, h1, h2, by simp [putCells, h3], ?_⟩⟩
    have h5 := take_putC cur d'.toList (by rw [k3]; omega)
    rw [k3] at h5
    simpa using h5
theorem sortC_none (A : Option Addr) (c : Nat) (fv : Value) (w : World) :
    Calls Tryd.prog 48 #[.slice A 0 c, fv] w fun e w' => e = .returned (.tuple #[]) ∧ w' = w := AnyF.slices_SortFunc_none Tryd.sortCb A c fv w
end Go.Proofs.YtcdmchaehafijaaDoor
