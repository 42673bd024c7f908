/- Layer 13: models that are written out; the example. -/
import Derived.Test.YtofclgapgjcflaaDoorDy
namespace Go.Proofs.YtofclgapgjcflaaDoor
open Go.RowKit Go.Proofs.Ws
set_option maxRecDepth 100000
theorem words_of {l : List Nat} (h : l.all (fun x => decide (x < 18446744073709551616)) = true) : Words l := fun x hx => of_decide_eq_true (List.all_eq_true.1 h x hx)
/-- a model with two agents whose lists lie in blocks of their own -/
theorem MoR.lit {W : World} {n : Nat} {val r1 r2 : List Nat} {b1 b2 b3 b4 : Nat} (h1 : HoldsU W b1 val) (h2 : HoldsU W b2 r1) (h3 : HoldsU W b3 r2)
    (h4 : HoldsV W b4 [.slice (some ⟨b2, 0, none⟩) r1.length r1.length, .slice (some ⟨b3, 0, none⟩) r2.length r2.length]) (hn : n ≤ 1000) (hl : val.length ≤ 1000 ∧ r1.length ≤ 1000 ∧ r2.length ≤ 1000)
    (hw : Words val) (hw1 : Words r1) (hw2 : Words r2) :
    MoR W W.heap.size (.agg #[.int .i64 (n : Int), .slice (some ⟨b1, 0, none⟩) val.length val.length, .slice (some ⟨b4, 0, none⟩) 2 2]) ⟨(n : Int), val, [r1, r2]⟩ := by
  refine ⟨⟨some ⟨b1, 0, none⟩, val.length, some ⟨b4, 0, none⟩, 2, rfl, h1.reads, ⟨rfl, [.slice (some ⟨b2, 0, none⟩) r1.length r1.length, .slice (some ⟨b3, 0, none⟩) r2.length r2.length], ⟨rfl, fun _ => ⟨_, rfl, h4.lt, fun j u hu => ?_⟩⟩, fun j hj => ?_⟩⟩, ⟨by dsimp only; unfold maxLen; omega, by dsimp only; unfold maxLen; simp⟩, ⟨by dsimp only; omega, by dsimp only; omega⟩, hw, fun r hr => ?_⟩
  · have hj : j < 2 := (List.getElem?_eq_some_iff.1 hu).1
    rw [addr0, h4.cell j hj, List.getD_eq_getElem?_getD, hu]; rfl
  · match j, hj with
    | 0, _ => exact ⟨some ⟨b2, 0, none⟩, r1.length, rfl, h2.reads, by show r1.length ≤ maxLen; unfold maxLen; omega⟩
    | 1, _ => exact ⟨some ⟨b3, 0, none⟩, r2.length, rfl, h3.reads, by show r2.length ≤ maxLen; unfold maxLen; omega⟩
    | j + 2, h => exact absurd h (by simp)
  · rcases List.mem_cons.1 hr with rfl | hr
    · exact hw1
    · rw [List.mem_singleton.1 hr]; exact hw2
theorem four_at (w : World) (o1 o2 o3 o4 : Array Value) (t1 t2 t3 t4 : TypeId) :
    (((((w.alloc (.cells o1 t1)).alloc (.cells o2 t2)).alloc (.cells o3 t3)).alloc (.cells o4 t4)).heap[w.heap.size]? = some (.cells o1 t1 (0, 0))) ∧
    (((((w.alloc (.cells o1 t1)).alloc (.cells o2 t2)).alloc (.cells o3 t3)).alloc (.cells o4 t4)).heap[w.heap.size + 1]? = some (.cells o2 t2 (0, 0))) ∧
    (((((w.alloc (.cells o1 t1)).alloc (.cells o2 t2)).alloc (.cells o3 t3)).alloc (.cells o4 t4)).heap[w.heap.size + 1 + 1]? = some (.cells o3 t3 (0, 0))) ∧
    (((((w.alloc (.cells o1 t1)).alloc (.cells o2 t2)).alloc (.cells o3 t3)).alloc (.cells o4 t4)).heap[w.heap.size + 1 + 1 + 1]? = some (.cells o4 t4 (0, 0))) ∧
    Below w.heap.size w ((((w.alloc (.cells o1 t1)).alloc (.cells o2 t2)).alloc (.cells o3 t3)).alloc (.cells o4 t4)) := by
  have sz : ∀ (W : World) (o : Obj), (W.alloc o).heap.size = W.heap.size + 1 := fun W o => by simp
  have new : ∀ (W : World) (o : Array Value) (t : TypeId) (k : Nat), k = W.heap.size → (W.alloc (.cells o t)).heap[k]? = some (.cells o t (0, 0)) := fun W o t k hk => by subst hk; exact heap_alloc_new W (.cells o t)
  have keep : ∀ (W : World) (o : Obj) (k : Nat) (x : Obj), W.heap[k]? = some x → (W.alloc o).heap[k]? = some x := fun W o k x h => (Below.heap_alloc W o k (Array.getElem?_eq_some_iff.1 h).1).trans h
  refine ⟨?_, ?_, ?_, ?_, ?_⟩
  · exact keep _ _ _ _ (keep _ _ _ _ (keep _ _ _ _ (new _ _ _ _ rfl)))
  · exact keep _ _ _ _ (keep _ _ _ _ (new _ _ _ _ (by simp only [sz])))
  · exact keep _ _ _ _ (new _ _ _ _ (by simp only [sz]))
  · exact new _ _ _ _ (by simp only [sz])
  · exact ((((Below.refl _ w).alloc (Nat.le_refl _) _).alloc (by simp) _).alloc (by simp; omega) _).alloc (by simp; omega) _
def exM : Mo := ⟨3, [3], [[3, 3, 4], [1, 6, 6]]⟩
set_option maxHeartbeats 4000000 in
theorem example_any (w : World) :
    Calls Tryd.prog 33 #[] w fun e w' => ∃ v, e = .returned v ∧ MoR w' w'.heap.size v exM ∧ Below w.heap.size w w' := by
  go_enter Tryd.func33, Tryd.ntmps33
  go_wp2
  have hg0 := heap_alloc_new w (.cells #[.int .i64 3, .slice (some ⟨w.heap.size + 1, 0, none⟩) 1 1, .slice (some ⟨w.heap.size + 1 + 1 + 1 + 1, 0, none⟩) 2 2] 25)
  have hb0 : Below w.heap.size w (w.alloc (.cells #[.int .i64 3, .slice (some ⟨w.heap.size + 1, 0, none⟩) 1 1, .slice (some ⟨w.heap.size + 1 + 1 + 1 + 1, 0, none⟩) 2 2] 25)) := (Below.refl _ w).alloc (Nat.le_refl _) _
  have hsz : (w.alloc (.cells #[.int .i64 3, .slice (some ⟨w.heap.size + 1, 0, none⟩) 1 1, .slice (some ⟨w.heap.size + 1 + 1 + 1 + 1, 0, none⟩) 2 2] 25)).heap.size = w.heap.size + 1 := by simp
  have h4 := four_at (w.alloc (.cells #[.int .i64 3, .slice (some ⟨w.heap.size + 1, 0, none⟩) 1 1, .slice (some ⟨w.heap.size + 1 + 1 + 1 + 1, 0, none⟩) 2 2] 25))
    #[.int .u64 3] #[.int .u64 3, .int .u64 3, .int .u64 4] #[.int .u64 1, .int .u64 6, .int .u64 6] #[.slice (some ⟨w.heap.size + 1 + 1, 0, none⟩) 3 3, .slice (some ⟨w.heap.size + 1 + 1 + 1, 0, none⟩) 3 3] 31 31 31 22
  rw [hsz] at h4
  obtain ⟨k1, k2, k3, k4, kb⟩ := h4
  have hg1 := (kb.block w.heap.size (by omega)).trans hg0
  generalize ((((w.alloc (.cells #[.int .i64 3, .slice (some ⟨w.heap.size + 1, 0, none⟩) 1 1, .slice (some ⟨w.heap.size + 1 + 1 + 1 + 1, 0, none⟩) 2 2] 25)).alloc (.cells #[.int .u64 3] 31)).alloc (.cells #[.int .u64 3, .int .u64 3, .int .u64 4] 31)).alloc (.cells #[.int .u64 1, .int .u64 6, .int .u64 6] 31)).alloc (.cells #[.slice (some ⟨w.heap.size + 1 + 1, 0, none⟩) 3 3, .slice (some ⟨w.heap.size + 1 + 1 + 1, 0, none⟩) 3 3] 22) = w9 at *
  (try simp only [Exit.inBlock, Exit.then])
  refine bodyPost_ret (ret_cell1 rfl _ _ w.heap.size _ _ _ _ rfl hg1 Tryd.underlying25 rfl (by kernel_rfl)) rfl ?_
  exact ⟨_, rfl, MoR.lit (n := 3) (val := [3]) (r1 := [3, 3, 4]) (r2 := [1, 6, 6]) k1 k2 k3 k4 (by decide) (by decide) (words_of (by decide)) (words_of (by decide)) (words_of (by decide)), hb0.trans (kb.mono (by omega))⟩
end Go.Proofs.YtofclgapgjcflaaDoor
