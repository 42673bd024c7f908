/- Layer 6: texts joined: Fr11 Fr12. -/
import Derived.Test.YtjpmhbnikoggaaaGreatDoorNIk
import Derived.Laws.EntriesVeiled
/- Layer 15: the sets that make an axiom false (the closures of conditions), by the program. -/
namespace Go.Proofs.YtjpmhbnikoggaaaGreatDoor
open Go.RowKit Go.Proofs.Ws
set_option maxRecDepth 100000
/-- the set that worlds give -/
def setV (p : Int) (l x : List Nat) : Nat := if p = 1 then 0 else if p = 2 ∨ p = 4 then l.getD (x.getD 0 0) 0 else if p = 3 then p2 (x.getD 0 0) else p2 (x.getD 2 0)
theorem set1_any (v1 v2 : Value) (w : World) : Calls Tryz.prog 93 #[v1, v2] w fun e w' => e = .returned (.int .u64 0) ∧ w = w' := by
  go_enter Tryz.func93, Tryz.ntmps93
  go_wp2
  go_ret
  exact ⟨rfl, rfl⟩
theorem set2_any (l x : List Nat) (A D : Option Addr) (n c d m : Nat) (w : World) (hR : Reads w w.heap.size 1 A n (us l)) (hX : Reads w w.heap.size 1 D m (iv x)) (hm : 0 < m) (hx : x.getD 0 0 < n) :
    Calls Tryz.prog 97 #[.slice A n c, .slice D m d] w fun e w' => e = .returned (.int .u64 ((l.getD (x.getD 0 0) 0 : Nat) : Int)) ∧ w = w' := by
  obtain ⟨ad, rfl, _, hc⟩ := iv_at hX (k := 0) hm
  rw [add_nil] at hc
  obtain ⟨ar, rfl, _, hr⟩ := hR.word_k hx
  clear hR hX
  generalize l.getD (x.getD 0 0) 0 = v at *
  generalize x.getD 0 0 = k at *
  go_enter Tryz.func97, Tryz.ntmps97
  go_wp2
  go_ret
  exact ⟨rfl, rfl⟩
theorem set4_any (l x : List Nat) (A D : Option Addr) (n c d m : Nat) (w : World) (hR : Reads w w.heap.size 1 A n (us l)) (hX : Reads w w.heap.size 1 D m (iv x)) (hm : 0 < m) (hx : x.getD 0 0 < n) :
    Calls Tryz.prog 103 #[.slice A n c, .slice D m d] w fun e w' => e = .returned (.int .u64 ((l.getD (x.getD 0 0) 0 : Nat) : Int)) ∧ w = w' := by
  obtain ⟨ad, rfl, _, hc⟩ := iv_at hX (k := 0) hm
  rw [add_nil] at hc
  obtain ⟨ar, rfl, _, hr⟩ := hR.word_k hx
  clear hR hX
  generalize l.getD (x.getD 0 0) 0 = v at *
  generalize x.getD 0 0 = k at *
  go_enter Tryz.func103, Tryz.ntmps103
  go_wp2
  go_ret
  exact ⟨rfl, rfl⟩
theorem set3_any (x : List Nat) (v : Value) (D : Option Addr) (d m : Nat) (w : World) (hX : Reads w w.heap.size 1 D m (iv x)) (hm : 0 < m) (hx : x.getD 0 0 < 64) :
    Calls Tryz.prog 100 #[v, .slice D m d] w fun e w' => e = .returned (.int .u64 (p2 (x.getD 0 0) : Int)) ∧ w = w' := by
  obtain ⟨ad, rfl, _, hc⟩ := iv_at hX (k := 0) hm
  rw [add_nil] at hc
  have hw := wrap_pow (x.getD 0 0) hx
  have HW := Lib.hid hw
  clear hX hw
  generalize x.getD 0 0 = k at *
  go_enter Tryz.func100, Tryz.ntmps100
  go_wp2
  go_ret
  exact ⟨ret_u64 HW.out, rfl⟩
theorem set5_any (x : List Nat) (v : Value) (D : Option Addr) (d m : Nat) (w : World) (hX : Reads w w.heap.size 1 D m (iv x)) (hm : 2 < m) (hx : x.getD 2 0 < 64) :
    Calls Tryz.prog 106 #[v, .slice D m d] w fun e w' => e = .returned (.int .u64 (p2 (x.getD 2 0) : Int)) ∧ w = w' := by
  obtain ⟨ad, rfl, _, hc0⟩ := iv_at hX (k := 2) hm
  have hc : w.cell? { block := ad.block, off := ad.off + 2 } = some (.int .i64 ((x.getD 2 0 : Nat) : Int)) := by simpa [Addr.add] using hc0
  have hw := wrap_pow (x.getD 2 0) hx
  have HW := Lib.hid hw
  clear hX hw hc0
  generalize x.getD 2 0 = k at *
  go_enter Tryz.func106, Tryz.ntmps106
  go_wp2
  go_ret
  exact ⟨ret_u64 HW.out, rfl⟩
end Go.Proofs.YtjpmhbnikoggaaaGreatDoor
/- Layer 15: the condition of a property, by the program. -/
namespace Go.Proofs.YtjpmhbnikoggaaaGreatDoor
open Go.RowKit Go.Proofs.Ws
set_option maxRecDepth 100000
/-- the cells of the five conditions -/
def cndC (B : Nat) : List Value := [
  .int .i64 1, .func (.func 91) #[] #[.pointer (some ⟨B + 1 + 1 + 1, 0, none⟩), .pointer (some ⟨B + 1, 0, none⟩), .pointer (some ⟨B + 1 + 1, 0, none⟩)], .int .i64 1, .func (.func 92) #[] #[], .func (.func 93) #[] #[],
  .int .i64 2, .func (.func 94) #[] #[.pointer (some ⟨B + 1 + 1 + 1, 0, none⟩), .pointer (some ⟨B + 1, 0, none⟩)], .int .i64 1, .func (.func 95) #[] #[], .func (.func 97) #[] #[],
  .int .i64 3, .func (.func 98) #[] #[.pointer (some ⟨B + 1 + 1 + 1, 0, none⟩), .pointer (some ⟨B + 1, 0, none⟩), .pointer (some ⟨B + 1 + 1, 0, none⟩)], .int .i64 2, .func (.func 99) #[] #[], .func (.func 100) #[] #[],
  .int .i64 4, .func (.func 101) #[] #[.pointer (some ⟨B + 1 + 1 + 1, 0, none⟩), .pointer (some ⟨B + 1, 0, none⟩)], .int .i64 3, .func (.func 102) #[] #[], .func (.func 103) #[] #[],
  .int .i64 5, .func (.func 104) #[] #[.pointer (some ⟨B + 1 + 1 + 1, 0, none⟩), .pointer (some ⟨B + 1 + 1, 0, none⟩), .pointer (some ⟨B + 1, 0, none⟩)], .int .i64 3, .func (.func 105) #[] #[], .func (.func 106) #[] #[]]
theorem four_at (w : World) (o0 : Obj) (t1 t2 t3 : TypeId) (v1 v2 v3 : Value) :
    (((((w.alloc o0).alloc (.cells #[v1] t1)).alloc (.cells #[v2] t2)).alloc (.cells #[v3] t3)).heap[w.heap.size]? = some o0) ∧
    (((((w.alloc o0).alloc (.cells #[v1] t1)).alloc (.cells #[v2] t2)).alloc (.cells #[v3] t3)).heap[w.heap.size + 1]? = some (.cells #[v1] t1)) ∧
    (((((w.alloc o0).alloc (.cells #[v1] t1)).alloc (.cells #[v2] t2)).alloc (.cells #[v3] t3)).heap[w.heap.size + 1 + 1]? = some (.cells #[v2] t2)) ∧
    (((((w.alloc o0).alloc (.cells #[v1] t1)).alloc (.cells #[v2] t2)).alloc (.cells #[v3] t3)).heap[w.heap.size + 1 + 1 + 1]? = some (.cells #[v3] t3)) ∧
    Below w.heap.size w ((((w.alloc o0).alloc (.cells #[v1] t1)).alloc (.cells #[v2] t2)).alloc (.cells #[v3] t3)) := by
  have sz : ∀ (W : World) (o : Obj), (W.alloc o).heap.size = W.heap.size + 1 := fun W o => by simp
  have new : ∀ (W : World) (o : Obj) (k : Nat), k = W.heap.size → (W.alloc o).heap[k]? = some o := fun W o k hk => by subst hk; exact heap_alloc_new W o
  have keep : ∀ (W : World) (o : Obj) (k : Nat) (x : Obj), W.heap[k]? = some x → (W.alloc o).heap[k]? = some x := fun W o k x h => (Below.heap_alloc W o k (Array.getElem?_eq_some_iff.1 h).1).trans h
  refine ⟨?_, ?_, ?_, ?_, ?_⟩
  · exact keep _ _ _ _ (keep _ _ _ _ (keep _ _ _ _ (new _ _ _ rfl)))
  · exact keep _ _ _ _ (keep _ _ _ _ (new _ _ _ (by simp only [sz])))
  · exact keep _ _ _ _ (new _ _ _ (by simp only [sz]))
  · exact new _ _ _ (by simp only [sz])
  · exact (((((Below.refl _ w).alloc (Nat.le_refl _) _).alloc (by simp) _).alloc (by simp; omega) _).alloc (by simp; omega) _)
theorem cset5 {W : World} {H : Nat} {t : TypeId} {v0 v1 v2 v3 v4 : Value} (h : W.heap[H]? = some (.cells #[v0, v1, v2, v3, v4] t)) (u0 u1 u2 u3 u4 : Value) :
    (((((W.setCell ⟨H, 0, none⟩ u0).setCell ⟨H, 1, none⟩ u1).setCell ⟨H, 2, none⟩ u2).setCell ⟨H, 3, none⟩ u3).setCell ⟨H, 4, none⟩ u4).heap[H]? = some (.cells #[u0, u1, u2, u3, u4] t) := by
  simp [World.setCell, Array.getElem?_modify, h]
/-- what a call has kept, and the constructors that it has laid -/
def Cb (w W : World) : Prop := Below w.heap.size w W ∧ W.heap[w.heap.size + 1]? = some (.cells #[.func (.func 55) #[] #[]] 69) ∧ W.heap[w.heap.size + 1 + 1]? = some (.cells #[.func (.func 60) #[] #[]] 69) ∧ W.heap[w.heap.size + 1 + 1 + 1]? = some (.cells #[.func (.func 90) #[] #[]] 87)
theorem Cb.alloc {w W : World} (h : Cb w W) (o : Obj) : Cb w (W.alloc o) := by
  have keep : ∀ (k : Nat) (x : Obj), W.heap[k]? = some x → (W.alloc o).heap[k]? = some x := fun k x h => (Below.heap_alloc W o k (Array.getElem?_eq_some_iff.1 h).1).trans h
  exact ⟨h.1.alloc h.1.size o, keep _ _ h.2.1, keep _ _ h.2.2.1, keep _ _ h.2.2.2⟩
theorem Cb.set {w W : World} (h : Cb w W) (k : Nat) (u : Value) : Cb w (W.setCell ⟨w.heap.size, k, none⟩ u) := by
  have keep : ∀ (j : Nat) (x : Obj), j ≠ w.heap.size → W.heap[j]? = some x → (W.setCell ⟨w.heap.size, k, none⟩ u).heap[j]? = some x := fun j x hj h => (Below.heap_setCell W ⟨w.heap.size, k, none⟩ u j hj).trans h
  exact ⟨h.1.setCell (Nat.le_refl _) _, keep _ _ (by omega) h.2.1, keep _ _ (by omega) h.2.2.1, keep _ _ (by omega) h.2.2.2⟩
theorem Cb.set5 {w W : World} (h : Cb w W) (u0 u1 u2 u3 u4 : Value) :
    Cb w (((((W.setCell ⟨w.heap.size, 0, none⟩ u0).setCell ⟨w.heap.size, 1, none⟩ u1).setCell ⟨w.heap.size, 2, none⟩ u2).setCell ⟨w.heap.size, 3, none⟩ u3).setCell ⟨w.heap.size, 4, none⟩ u4) :=
  ((((h.set 0 u0).set 1 u1).set 2 u2).set 3 u3).set 4 u4
set_option maxHeartbeats 8000000 in
theorem cond1_all (w : World) : Calls Tryz.prog 45 #[.int .i64 1] w fun e w' => e = .returned (.tuple #[.agg #[.int .i64 1, .func (.func 91) #[] #[.pointer (some ⟨w.heap.size + 1 + 1 + 1, 0, none⟩), .pointer (some ⟨w.heap.size + 1, 0, none⟩), .pointer (some ⟨w.heap.size + 1 + 1, 0, none⟩)], .int .i64 1, .func (.func 92) #[] #[], .func (.func 93) #[] #[]], .bool true]) ∧ Cb w w' := by
  have hmf : ∀ (fn : Fn) (first cap : Array Value) (w : World), (Instr.makeFunc fn first cap).run Tryz.prog w = .ok (.func fn first cap) w := fun _ _ _ _ => rfl
  obtain ⟨k0, k1, k2, k3, hb4⟩ := four_at w (.cells #[.int .i64 0, .nilFunc, .int .i64 0, .nilFunc, .nilFunc] 72) 69 69 87 (.func (.func 55) #[] #[]) (.func (.func 60) #[] #[]) (.func (.func 90) #[] #[])
  have hsz : (((((w.alloc (.cells #[.int .i64 0, .nilFunc, .int .i64 0, .nilFunc, .nilFunc] 72)).alloc (.cells #[.func (.func 55) #[] #[]] 69)).alloc (.cells #[.func (.func 60) #[] #[]] 69)).alloc (.cells #[.func (.func 90) #[] #[]] 87))).heap.size = w.heap.size + 1 + 1 + 1 + 1 := by simp
  have k6 := heap_alloc_new (((((w.alloc (.cells #[.int .i64 0, .nilFunc, .int .i64 0, .nilFunc, .nilFunc] 72)).alloc (.cells #[.func (.func 55) #[] #[]] 69)).alloc (.cells #[.func (.func 60) #[] #[]] 69)).alloc (.cells #[.func (.func 90) #[] #[]] 87))) (.cells (cndC w.heap.size).toArray 72)
  have k7 := (Below.heap_alloc (((((w.alloc (.cells #[.int .i64 0, .nilFunc, .int .i64 0, .nilFunc, .nilFunc] 72)).alloc (.cells #[.func (.func 55) #[] #[]] 69)).alloc (.cells #[.func (.func 60) #[] #[]] 69)).alloc (.cells #[.func (.func 90) #[] #[]] 87))) (.cells (cndC w.heap.size).toArray 72) w.heap.size (by rw [hsz]; omega)).trans k0
  have hB6 : Cb w _ := Cb.alloc ⟨hb4, k1, k2, k3⟩ (.cells (cndC w.heap.size).toArray 72)
  rw [hsz] at k6
  have HK := Lib.hid (And.intro k6 (And.intro k7 hB6))
  clear k0 k1 k2 k3 hb4 hsz k6 k7 hB6
  go_enter Tryz.func45, Tryz.ntmps45
  go_wp2
  go_loopw [8, 21] (fun _ i wr => ∃ j : Nat, j ≤ 0 ∧ i = .int .i64 (j : Int) ∧ Hid (wr.heap[w.heap.size + 1 + 1 + 1 + 1]? = some (.cells (cndC w.heap.size).toArray 72) ∧ wr.heap[w.heap.size]? = some (.cells #[.int .i64 0, .nilFunc, .int .i64 0, .nilFunc, .nilFunc] 72) ∧ Cb w wr)) (fun _ i _ => 6 - (intOf i).toNat)
  case atStart => exact ⟨0, Nat.zero_le _, rfl, HK⟩
  case round =>
    obtain ⟨j, hj, rfl, HO⟩ := hrel
    have HA : Hid (∀ o, (wr.alloc o).heap[w.heap.size + 1 + 1 + 1 + 1]? = some (.cells (cndC w.heap.size).toArray 72) ∧ (wr.alloc o).heap[w.heap.size]? = some (.cells #[.int .i64 0, .nilFunc, .int .i64 0, .nilFunc, .nilFunc] 72) ∧ Cb w (wr.alloc o)) := Lib.hid (fun o => ⟨(Below.heap_alloc wr o _ (Array.getElem?_eq_some_iff.1 HO.out.1).1).trans HO.out.1, (Below.heap_alloc wr o _ (Array.getElem?_eq_some_iff.1 HO.out.2.1).1).trans HO.out.2.1, HO.out.2.2.alloc o⟩)
    have kc := HO.out.1
    have hcs : j = 0 := by omega
    rcases hcs with rfl
    · have q0 := (Lib.cell_of_heap kc 0).trans (show _ = some (.int .i64 1 : Value) from rfl)
      have q1 := (Lib.cell_of_heap kc 1).trans (show _ = some (.func (.func 91) #[] #[.pointer (some ⟨w.heap.size + 1 + 1 + 1, 0, none⟩), .pointer (some ⟨w.heap.size + 1, 0, none⟩), .pointer (some ⟨w.heap.size + 1 + 1, 0, none⟩)] : Value) from rfl)
      have q2 := (Lib.cell_of_heap kc 2).trans (show _ = some (.int .i64 1 : Value) from rfl)
      have q3 := (Lib.cell_of_heap kc 3).trans (show _ = some (.func (.func 92) #[] #[] : Value) from rfl)
      have q4 := (Lib.cell_of_heap kc 4).trans (show _ = some (.func (.func 93) #[] #[] : Value) from rfl)
      have kz := (HA.out (.cells #[.int .i64 1, .func (.func 91) #[] #[.pointer (some ⟨w.heap.size + 1 + 1 + 1, 0, none⟩), .pointer (some ⟨w.heap.size + 1, 0, none⟩), .pointer (some ⟨w.heap.size + 1 + 1, 0, none⟩)], .int .i64 1, .func (.func 92) #[] #[], .func (.func 93) #[] #[]] 72)).2.1
      have y0 := (Lib.cell_of_heap kz 0).trans (show _ = some (.int .i64 0 : Value) from rfl)
      have y1 := (Lib.cell_of_heap kz 1).trans (show _ = some (.nilFunc : Value) from rfl)
      have y2 := (Lib.cell_of_heap kz 2).trans (show _ = some (.int .i64 0 : Value) from rfl)
      have y3 := (Lib.cell_of_heap kz 3).trans (show _ = some (.nilFunc : Value) from rfl)
      have y4 := (Lib.cell_of_heap kz 4).trans (show _ = some (.nilFunc : Value) from rfl)
      have f0 := Lib.frozen_of_heap kz 0
      have f1 := Lib.frozen_of_heap kz 1
      have f2 := Lib.frozen_of_heap kz 2
      have f3 := Lib.frozen_of_heap kz 3
      have f4 := Lib.frozen_of_heap kz 4
      have HZ : Hid (_ ∧ _) := Lib.hid (And.intro (cset5 kz (.int .i64 1) (.func (.func 91) #[] #[.pointer (some ⟨w.heap.size + 1 + 1 + 1, 0, none⟩), .pointer (some ⟨w.heap.size + 1, 0, none⟩), .pointer (some ⟨w.heap.size + 1 + 1, 0, none⟩)]) (.int .i64 1) (.func (.func 92) #[] #[]) (.func (.func 93) #[] #[])) (Cb.set5 (HA.out (.cells #[.int .i64 1, .func (.func 91) #[] #[.pointer (some ⟨w.heap.size + 1 + 1 + 1, 0, none⟩), .pointer (some ⟨w.heap.size + 1, 0, none⟩), .pointer (some ⟨w.heap.size + 1 + 1, 0, none⟩)], .int .i64 1, .func (.func 92) #[] #[], .func (.func 93) #[] #[]] 72)).2.2 (.int .i64 1) (.func (.func 91) #[] #[.pointer (some ⟨w.heap.size + 1 + 1 + 1, 0, none⟩), .pointer (some ⟨w.heap.size + 1, 0, none⟩), .pointer (some ⟨w.heap.size + 1 + 1, 0, none⟩)]) (.int .i64 1) (.func (.func 92) #[] #[]) (.func (.func 93) #[] #[])))
      clear kc kz
      go_wp2
      clear y0 y1 y2 y3 y4 f0 f1 f2 f3 f4
      (try simp only [Exit.inBlock, Exit.then])
      refine bodyPost_ret (ret_cellT rfl _ _ w.heap.size _ _ _ _ rfl HZ.out.1 Tryz.underlying72 rfl (by kernel_rfl)) rfl ?_
      exact ⟨rfl, HZ.out.2⟩
set_option maxHeartbeats 8000000 in
theorem cond2_all (w : World) : Calls Tryz.prog 45 #[.int .i64 2] w fun e w' => e = .returned (.tuple #[.agg #[.int .i64 2, .func (.func 94) #[] #[.pointer (some ⟨w.heap.size + 1 + 1 + 1, 0, none⟩), .pointer (some ⟨w.heap.size + 1, 0, none⟩)], .int .i64 1, .func (.func 95) #[] #[], .func (.func 97) #[] #[]], .bool true]) ∧ Cb w w' := by
  have hmf : ∀ (fn : Fn) (first cap : Array Value) (w : World), (Instr.makeFunc fn first cap).run Tryz.prog w = .ok (.func fn first cap) w := fun _ _ _ _ => rfl
  obtain ⟨k0, k1, k2, k3, hb4⟩ := four_at w (.cells #[.int .i64 0, .nilFunc, .int .i64 0, .nilFunc, .nilFunc] 72) 69 69 87 (.func (.func 55) #[] #[]) (.func (.func 60) #[] #[]) (.func (.func 90) #[] #[])
  have hsz : (((((w.alloc (.cells #[.int .i64 0, .nilFunc, .int .i64 0, .nilFunc, .nilFunc] 72)).alloc (.cells #[.func (.func 55) #[] #[]] 69)).alloc (.cells #[.func (.func 60) #[] #[]] 69)).alloc (.cells #[.func (.func 90) #[] #[]] 87))).heap.size = w.heap.size + 1 + 1 + 1 + 1 := by simp
  have k6 := heap_alloc_new (((((w.alloc (.cells #[.int .i64 0, .nilFunc, .int .i64 0, .nilFunc, .nilFunc] 72)).alloc (.cells #[.func (.func 55) #[] #[]] 69)).alloc (.cells #[.func (.func 60) #[] #[]] 69)).alloc (.cells #[.func (.func 90) #[] #[]] 87))) (.cells (cndC w.heap.size).toArray 72)
  have k7 := (Below.heap_alloc (((((w.alloc (.cells #[.int .i64 0, .nilFunc, .int .i64 0, .nilFunc, .nilFunc] 72)).alloc (.cells #[.func (.func 55) #[] #[]] 69)).alloc (.cells #[.func (.func 60) #[] #[]] 69)).alloc (.cells #[.func (.func 90) #[] #[]] 87))) (.cells (cndC w.heap.size).toArray 72) w.heap.size (by rw [hsz]; omega)).trans k0
  have hB6 : Cb w _ := Cb.alloc ⟨hb4, k1, k2, k3⟩ (.cells (cndC w.heap.size).toArray 72)
  rw [hsz] at k6
  have HK := Lib.hid (And.intro k6 (And.intro k7 hB6))
  clear k0 k1 k2 k3 hb4 hsz k6 k7 hB6
  go_enter Tryz.func45, Tryz.ntmps45
  go_wp2
  go_loopw [8, 21] (fun _ i wr => ∃ j : Nat, j ≤ 1 ∧ i = .int .i64 (j : Int) ∧ Hid (wr.heap[w.heap.size + 1 + 1 + 1 + 1]? = some (.cells (cndC w.heap.size).toArray 72) ∧ wr.heap[w.heap.size]? = some (.cells #[.int .i64 0, .nilFunc, .int .i64 0, .nilFunc, .nilFunc] 72) ∧ Cb w wr)) (fun _ i _ => 6 - (intOf i).toNat)
  case atStart => exact ⟨0, Nat.zero_le _, rfl, HK⟩
  case round =>
    obtain ⟨j, hj, rfl, HO⟩ := hrel
    have HA : Hid (∀ o, (wr.alloc o).heap[w.heap.size + 1 + 1 + 1 + 1]? = some (.cells (cndC w.heap.size).toArray 72) ∧ (wr.alloc o).heap[w.heap.size]? = some (.cells #[.int .i64 0, .nilFunc, .int .i64 0, .nilFunc, .nilFunc] 72) ∧ Cb w (wr.alloc o)) := Lib.hid (fun o => ⟨(Below.heap_alloc wr o _ (Array.getElem?_eq_some_iff.1 HO.out.1).1).trans HO.out.1, (Below.heap_alloc wr o _ (Array.getElem?_eq_some_iff.1 HO.out.2.1).1).trans HO.out.2.1, HO.out.2.2.alloc o⟩)
    have kc := HO.out.1
    have hcs : j = 0 ∨ j = 1 := by omega
    rcases hcs with rfl | rfl
    · have q0 := (Lib.cell_of_heap kc 0).trans (show _ = some (.int .i64 1 : Value) from rfl)
      have q1 := (Lib.cell_of_heap kc 1).trans (show _ = some (.func (.func 91) #[] #[.pointer (some ⟨w.heap.size + 1 + 1 + 1, 0, none⟩), .pointer (some ⟨w.heap.size + 1, 0, none⟩), .pointer (some ⟨w.heap.size + 1 + 1, 0, none⟩)] : Value) from rfl)
      have q2 := (Lib.cell_of_heap kc 2).trans (show _ = some (.int .i64 1 : Value) from rfl)
      have q3 := (Lib.cell_of_heap kc 3).trans (show _ = some (.func (.func 92) #[] #[] : Value) from rfl)
      have q4 := (Lib.cell_of_heap kc 4).trans (show _ = some (.func (.func 93) #[] #[] : Value) from rfl)
      clear kc
      go_wp2
      go_roundw
      case rel => exact ⟨1, by omega, by go_num, Lib.hid (HA.out _)⟩
      case measure => first | (simp [intOf]; done) | (simp [intOf]; omega)
    · have q0 := (Lib.cell_of_heap kc 5).trans (show _ = some (.int .i64 2 : Value) from rfl)
      have q1 := (Lib.cell_of_heap kc 6).trans (show _ = some (.func (.func 94) #[] #[.pointer (some ⟨w.heap.size + 1 + 1 + 1, 0, none⟩), .pointer (some ⟨w.heap.size + 1, 0, none⟩)] : Value) from rfl)
      have q2 := (Lib.cell_of_heap kc 7).trans (show _ = some (.int .i64 1 : Value) from rfl)
      have q3 := (Lib.cell_of_heap kc 8).trans (show _ = some (.func (.func 95) #[] #[] : Value) from rfl)
      have q4 := (Lib.cell_of_heap kc 9).trans (show _ = some (.func (.func 97) #[] #[] : Value) from rfl)
      have kz := (HA.out (.cells #[.int .i64 2, .func (.func 94) #[] #[.pointer (some ⟨w.heap.size + 1 + 1 + 1, 0, none⟩), .pointer (some ⟨w.heap.size + 1, 0, none⟩)], .int .i64 1, .func (.func 95) #[] #[], .func (.func 97) #[] #[]] 72)).2.1
      have y0 := (Lib.cell_of_heap kz 0).trans (show _ = some (.int .i64 0 : Value) from rfl)
      have y1 := (Lib.cell_of_heap kz 1).trans (show _ = some (.nilFunc : Value) from rfl)
      have y2 := (Lib.cell_of_heap kz 2).trans (show _ = some (.int .i64 0 : Value) from rfl)
      have y3 := (Lib.cell_of_heap kz 3).trans (show _ = some (.nilFunc : Value) from rfl)
      have y4 := (Lib.cell_of_heap kz 4).trans (show _ = some (.nilFunc : Value) from rfl)
      have f0 := Lib.frozen_of_heap kz 0
      have f1 := Lib.frozen_of_heap kz 1
      have f2 := Lib.frozen_of_heap kz 2
      have f3 := Lib.frozen_of_heap kz 3
      have f4 := Lib.frozen_of_heap kz 4
      have HZ : Hid (_ ∧ _) := Lib.hid (And.intro (cset5 kz (.int .i64 2) (.func (.func 94) #[] #[.pointer (some ⟨w.heap.size + 1 + 1 + 1, 0, none⟩), .pointer (some ⟨w.heap.size + 1, 0, none⟩)]) (.int .i64 1) (.func (.func 95) #[] #[]) (.func (.func 97) #[] #[])) (Cb.set5 (HA.out (.cells #[.int .i64 2, .func (.func 94) #[] #[.pointer (some ⟨w.heap.size + 1 + 1 + 1, 0, none⟩), .pointer (some ⟨w.heap.size + 1, 0, none⟩)], .int .i64 1, .func (.func 95) #[] #[], .func (.func 97) #[] #[]] 72)).2.2 (.int .i64 2) (.func (.func 94) #[] #[.pointer (some ⟨w.heap.size + 1 + 1 + 1, 0, none⟩), .pointer (some ⟨w.heap.size + 1, 0, none⟩)]) (.int .i64 1) (.func (.func 95) #[] #[]) (.func (.func 97) #[] #[])))
      clear kc kz
      go_wp2
      clear y0 y1 y2 y3 y4 f0 f1 f2 f3 f4
      (try simp only [Exit.inBlock, Exit.then])
      refine bodyPost_ret (ret_cellT rfl _ _ w.heap.size _ _ _ _ rfl HZ.out.1 Tryz.underlying72 rfl (by kernel_rfl)) rfl ?_
      exact ⟨rfl, HZ.out.2⟩
set_option maxHeartbeats 8000000 in
theorem cond3_all (w : World) : Calls Tryz.prog 45 #[.int .i64 3] w fun e w' => e = .returned (.tuple #[.agg #[.int .i64 3, .func (.func 98) #[] #[.pointer (some ⟨w.heap.size + 1 + 1 + 1, 0, none⟩), .pointer (some ⟨w.heap.size + 1, 0, none⟩), .pointer (some ⟨w.heap.size + 1 + 1, 0, none⟩)], .int .i64 2, .func (.func 99) #[] #[], .func (.func 100) #[] #[]], .bool true]) ∧ Cb w w' := by
  have hmf : ∀ (fn : Fn) (first cap : Array Value) (w : World), (Instr.makeFunc fn first cap).run Tryz.prog w = .ok (.func fn first cap) w := fun _ _ _ _ => rfl
  obtain ⟨k0, k1, k2, k3, hb4⟩ := four_at w (.cells #[.int .i64 0, .nilFunc, .int .i64 0, .nilFunc, .nilFunc] 72) 69 69 87 (.func (.func 55) #[] #[]) (.func (.func 60) #[] #[]) (.func (.func 90) #[] #[])
  have hsz : (((((w.alloc (.cells #[.int .i64 0, .nilFunc, .int .i64 0, .nilFunc, .nilFunc] 72)).alloc (.cells #[.func (.func 55) #[] #[]] 69)).alloc (.cells #[.func (.func 60) #[] #[]] 69)).alloc (.cells #[.func (.func 90) #[] #[]] 87))).heap.size = w.heap.size + 1 + 1 + 1 + 1 := by simp
  have k6 := heap_alloc_new (((((w.alloc (.cells #[.int .i64 0, .nilFunc, .int .i64 0, .nilFunc, .nilFunc] 72)).alloc (.cells #[.func (.func 55) #[] #[]] 69)).alloc (.cells #[.func (.func 60) #[] #[]] 69)).alloc (.cells #[.func (.func 90) #[] #[]] 87))) (.cells (cndC w.heap.size).toArray 72)
  have k7 := (Below.heap_alloc (((((w.alloc (.cells #[.int .i64 0, .nilFunc, .int .i64 0, .nilFunc, .nilFunc] 72)).alloc (.cells #[.func (.func 55) #[] #[]] 69)).alloc (.cells #[.func (.func 60) #[] #[]] 69)).alloc (.cells #[.func (.func 90) #[] #[]] 87))) (.cells (cndC w.heap.size).toArray 72) w.heap.size (by rw [hsz]; omega)).trans k0
  have hB6 : Cb w _ := Cb.alloc ⟨hb4, k1, k2, k3⟩ (.cells (cndC w.heap.size).toArray 72)
  rw [hsz] at k6
  have HK := Lib.hid (And.intro k6 (And.intro k7 hB6))
  clear k0 k1 k2 k3 hb4 hsz k6 k7 hB6
  go_enter Tryz.func45, Tryz.ntmps45
  go_wp2
  go_loopw [8, 21] (fun _ i wr => ∃ j : Nat, j ≤ 2 ∧ i = .int .i64 (j : Int) ∧ Hid (wr.heap[w.heap.size + 1 + 1 + 1 + 1]? = some (.cells (cndC w.heap.size).toArray 72) ∧ wr.heap[w.heap.size]? = some (.cells #[.int .i64 0, .nilFunc, .int .i64 0, .nilFunc, .nilFunc] 72) ∧ Cb w wr)) (fun _ i _ => 6 - (intOf i).toNat)
  case atStart => exact ⟨0, Nat.zero_le _, rfl, HK⟩
  case round =>
    obtain ⟨j, hj, rfl, HO⟩ := hrel
    have HA : Hid (∀ o, (wr.alloc o).heap[w.heap.size + 1 + 1 + 1 + 1]? = some (.cells (cndC w.heap.size).toArray 72) ∧ (wr.alloc o).heap[w.heap.size]? = some (.cells #[.int .i64 0, .nilFunc, .int .i64 0, .nilFunc, .nilFunc] 72) ∧ Cb w (wr.alloc o)) := Lib.hid (fun o => ⟨(Below.heap_alloc wr o _ (Array.getElem?_eq_some_iff.1 HO.out.1).1).trans HO.out.1, (Below.heap_alloc wr o _ (Array.getElem?_eq_some_iff.1 HO.out.2.1).1).trans HO.out.2.1, HO.out.2.2.alloc o⟩)
    have kc := HO.out.1
    have hcs : j = 0 ∨ j = 1 ∨ j = 2 := by omega
    rcases hcs with rfl | rfl | rfl
    · have q0 := (Lib.cell_of_heap kc 0).trans (show _ = some (.int .i64 1 : Value) from rfl)
      have q1 := (Lib.cell_of_heap kc 1).trans (show _ = some (.func (.func 91) #[] #[.pointer (some ⟨w.heap.size + 1 + 1 + 1, 0, none⟩), .pointer (some ⟨w.heap.size + 1, 0, none⟩), .pointer (some ⟨w.heap.size + 1 + 1, 0, none⟩)] : Value) from rfl)
      have q2 := (Lib.cell_of_heap kc 2).trans (show _ = some (.int .i64 1 : Value) from rfl)
      have q3 := (Lib.cell_of_heap kc 3).trans (show _ = some (.func (.func 92) #[] #[] : Value) from rfl)
      have q4 := (Lib.cell_of_heap kc 4).trans (show _ = some (.func (.func 93) #[] #[] : Value) from rfl)
      clear kc
      go_wp2
      go_roundw
      case rel => exact ⟨1, by omega, by go_num, Lib.hid (HA.out _)⟩
      case measure => first | (simp [intOf]; done) | (simp [intOf]; omega)
    · have q0 := (Lib.cell_of_heap kc 5).trans (show _ = some (.int .i64 2 : Value) from rfl)
      have q1 := (Lib.cell_of_heap kc 6).trans (show _ = some (.func (.func 94) #[] #[.pointer (some ⟨w.heap.size + 1 + 1 + 1, 0, none⟩), .pointer (some ⟨w.heap.size + 1, 0, none⟩)] : Value) from rfl)
      have q2 := (Lib.cell_of_heap kc 7).trans (show _ = some (.int .i64 1 : Value) from rfl)
      have q3 := (Lib.cell_of_heap kc 8).trans (show _ = some (.func (.func 95) #[] #[] : Value) from rfl)
      have q4 := (Lib.cell_of_heap kc 9).trans (show _ = some (.func (.func 97) #[] #[] : Value) from rfl)
      clear kc
      go_wp2
      go_roundw
      case rel => exact ⟨2, by omega, by go_num, Lib.hid (HA.out _)⟩
      case measure => first | (simp [intOf]; done) | (simp [intOf]; omega)
    · have q0 := (Lib.cell_of_heap kc 10).trans (show _ = some (.int .i64 3 : Value) from rfl)
      have q1 := (Lib.cell_of_heap kc 11).trans (show _ = some (.func (.func 98) #[] #[.pointer (some ⟨w.heap.size + 1 + 1 + 1, 0, none⟩), .pointer (some ⟨w.heap.size + 1, 0, none⟩), .pointer (some ⟨w.heap.size + 1 + 1, 0, none⟩)] : Value) from rfl)
      have q2 := (Lib.cell_of_heap kc 12).trans (show _ = some (.int .i64 2 : Value) from rfl)
      have q3 := (Lib.cell_of_heap kc 13).trans (show _ = some (.func (.func 99) #[] #[] : Value) from rfl)
      have q4 := (Lib.cell_of_heap kc 14).trans (show _ = some (.func (.func 100) #[] #[] : Value) from rfl)
      have kz := (HA.out (.cells #[.int .i64 3, .func (.func 98) #[] #[.pointer (some ⟨w.heap.size + 1 + 1 + 1, 0, none⟩), .pointer (some ⟨w.heap.size + 1, 0, none⟩), .pointer (some ⟨w.heap.size + 1 + 1, 0, none⟩)], .int .i64 2, .func (.func 99) #[] #[], .func (.func 100) #[] #[]] 72)).2.1
      have y0 := (Lib.cell_of_heap kz 0).trans (show _ = some (.int .i64 0 : Value) from rfl)
      have y1 := (Lib.cell_of_heap kz 1).trans (show _ = some (.nilFunc : Value) from rfl)
      have y2 := (Lib.cell_of_heap kz 2).trans (show _ = some (.int .i64 0 : Value) from rfl)
      have y3 := (Lib.cell_of_heap kz 3).trans (show _ = some (.nilFunc : Value) from rfl)
      have y4 := (Lib.cell_of_heap kz 4).trans (show _ = some (.nilFunc : Value) from rfl)
      have f0 := Lib.frozen_of_heap kz 0
      have f1 := Lib.frozen_of_heap kz 1
      have f2 := Lib.frozen_of_heap kz 2
      have f3 := Lib.frozen_of_heap kz 3
      have f4 := Lib.frozen_of_heap kz 4
      have HZ : Hid (_ ∧ _) := Lib.hid (And.intro (cset5 kz (.int .i64 3) (.func (.func 98) #[] #[.pointer (some ⟨w.heap.size + 1 + 1 + 1, 0, none⟩), .pointer (some ⟨w.heap.size + 1, 0, none⟩), .pointer (some ⟨w.heap.size + 1 + 1, 0, none⟩)]) (.int .i64 2) (.func (.func 99) #[] #[]) (.func (.func 100) #[] #[])) (Cb.set5 (HA.out (.cells #[.int .i64 3, .func (.func 98) #[] #[.pointer (some ⟨w.heap.size + 1 + 1 + 1, 0, none⟩), .pointer (some ⟨w.heap.size + 1, 0, none⟩), .pointer (some ⟨w.heap.size + 1 + 1, 0, none⟩)], .int .i64 2, .func (.func 99) #[] #[], .func (.func 100) #[] #[]] 72)).2.2 (.int .i64 3) (.func (.func 98) #[] #[.pointer (some ⟨w.heap.size + 1 + 1 + 1, 0, none⟩), .pointer (some ⟨w.heap.size + 1, 0, none⟩), .pointer (some ⟨w.heap.size + 1 + 1, 0, none⟩)]) (.int .i64 2) (.func (.func 99) #[] #[]) (.func (.func 100) #[] #[])))
      clear kc kz
      go_wp2
      clear y0 y1 y2 y3 y4 f0 f1 f2 f3 f4
      (try simp only [Exit.inBlock, Exit.then])
      refine bodyPost_ret (ret_cellT rfl _ _ w.heap.size _ _ _ _ rfl HZ.out.1 Tryz.underlying72 rfl (by kernel_rfl)) rfl ?_
      exact ⟨rfl, HZ.out.2⟩
set_option maxHeartbeats 8000000 in
theorem cond4_all (w : World) : Calls Tryz.prog 45 #[.int .i64 4] w fun e w' => e = .returned (.tuple #[.agg #[.int .i64 4, .func (.func 101) #[] #[.pointer (some ⟨w.heap.size + 1 + 1 + 1, 0, none⟩), .pointer (some ⟨w.heap.size + 1, 0, none⟩)], .int .i64 3, .func (.func 102) #[] #[], .func (.func 103) #[] #[]], .bool true]) ∧ Cb w w' := by
  have hmf : ∀ (fn : Fn) (first cap : Array Value) (w : World), (Instr.makeFunc fn first cap).run Tryz.prog w = .ok (.func fn first cap) w := fun _ _ _ _ => rfl
  obtain ⟨k0, k1, k2, k3, hb4⟩ := four_at w (.cells #[.int .i64 0, .nilFunc, .int .i64 0, .nilFunc, .nilFunc] 72) 69 69 87 (.func (.func 55) #[] #[]) (.func (.func 60) #[] #[]) (.func (.func 90) #[] #[])
  have hsz : (((((w.alloc (.cells #[.int .i64 0, .nilFunc, .int .i64 0, .nilFunc, .nilFunc] 72)).alloc (.cells #[.func (.func 55) #[] #[]] 69)).alloc (.cells #[.func (.func 60) #[] #[]] 69)).alloc (.cells #[.func (.func 90) #[] #[]] 87))).heap.size = w.heap.size + 1 + 1 + 1 + 1 := by simp
  have k6 := heap_alloc_new (((((w.alloc (.cells #[.int .i64 0, .nilFunc, .int .i64 0, .nilFunc, .nilFunc] 72)).alloc (.cells #[.func (.func 55) #[] #[]] 69)).alloc (.cells #[.func (.func 60) #[] #[]] 69)).alloc (.cells #[.func (.func 90) #[] #[]] 87))) (.cells (cndC w.heap.size).toArray 72)
  have k7 := (Below.heap_alloc (((((w.alloc (.cells #[.int .i64 0, .nilFunc, .int .i64 0, .nilFunc, .nilFunc] 72)).alloc (.cells #[.func (.func 55) #[] #[]] 69)).alloc (.cells #[.func (.func 60) #[] #[]] 69)).alloc (.cells #[.func (.func 90) #[] #[]] 87))) (.cells (cndC w.heap.size).toArray 72) w.heap.size (by rw [hsz]; omega)).trans k0
  have hB6 : Cb w _ := Cb.alloc ⟨hb4, k1, k2, k3⟩ (.cells (cndC w.heap.size).toArray 72)
  rw [hsz] at k6
  have HK := Lib.hid (And.intro k6 (And.intro k7 hB6))
  clear k0 k1 k2 k3 hb4 hsz k6 k7 hB6
  go_enter Tryz.func45, Tryz.ntmps45
  go_wp2
  go_loopw [8, 21] (fun _ i wr => ∃ j : Nat, j ≤ 3 ∧ i = .int .i64 (j : Int) ∧ Hid (wr.heap[w.heap.size + 1 + 1 + 1 + 1]? = some (.cells (cndC w.heap.size).toArray 72) ∧ wr.heap[w.heap.size]? = some (.cells #[.int .i64 0, .nilFunc, .int .i64 0, .nilFunc, .nilFunc] 72) ∧ Cb w wr)) (fun _ i _ => 6 - (intOf i).toNat)
  case atStart => exact ⟨0, Nat.zero_le _, rfl, HK⟩
  case round =>
    obtain ⟨j, hj, rfl, HO⟩ := hrel
    have HA : Hid (∀ o, (wr.alloc o).heap[w.heap.size + 1 + 1 + 1 + 1]? = some (.cells (cndC w.heap.size).toArray 72) ∧ (wr.alloc o).heap[w.heap.size]? = some (.cells #[.int .i64 0, .nilFunc, .int .i64 0, .nilFunc, .nilFunc] 72) ∧ Cb w (wr.alloc o)) := Lib.hid (fun o => ⟨(Below.heap_alloc wr o _ (Array.getElem?_eq_some_iff.1 HO.out.1).1).trans HO.out.1, (Below.heap_alloc wr o _ (Array.getElem?_eq_some_iff.1 HO.out.2.1).1).trans HO.out.2.1, HO.out.2.2.alloc o⟩)
    have kc := HO.out.1
    have hcs : j = 0 ∨ j = 1 ∨ j = 2 ∨ j = 3 := by omega
    rcases hcs with rfl | rfl | rfl | rfl
    · have q0 := (Lib.cell_of_heap kc 0).trans (show _ = some (.int .i64 1 : Value) from rfl)
      have q1 := (Lib.cell_of_heap kc 1).trans (show _ = some (.func (.func 91) #[] #[.pointer (some ⟨w.heap.size + 1 + 1 + 1, 0, none⟩), .pointer (some ⟨w.heap.size + 1, 0, none⟩), .pointer (some ⟨w.heap.size + 1 + 1, 0, none⟩)] : Value) from rfl)
      have q2 := (Lib.cell_of_heap kc 2).trans (show _ = some (.int .i64 1 : Value) from rfl)
      have q3 := (Lib.cell_of_heap kc 3).trans (show _ = some (.func (.func 92) #[] #[] : Value) from rfl)
      have q4 := (Lib.cell_of_heap kc 4).trans (show _ = some (.func (.func 93) #[] #[] : Value) from rfl)
      clear kc
      go_wp2
      go_roundw
      case rel => exact ⟨1, by omega, by go_num, Lib.hid (HA.out _)⟩
      case measure => first | (simp [intOf]; done) | (simp [intOf]; omega)
    · have q0 := (Lib.cell_of_heap kc 5).trans (show _ = some (.int .i64 2 : Value) from rfl)
      have q1 := (Lib.cell_of_heap kc 6).trans (show _ = some (.func (.func 94) #[] #[.pointer (some ⟨w.heap.size + 1 + 1 + 1, 0, none⟩), .pointer (some ⟨w.heap.size + 1, 0, none⟩)] : Value) from rfl)
      have q2 := (Lib.cell_of_heap kc 7).trans (show _ = some (.int .i64 1 : Value) from rfl)
      have q3 := (Lib.cell_of_heap kc 8).trans (show _ = some (.func (.func 95) #[] #[] : Value) from rfl)
      have q4 := (Lib.cell_of_heap kc 9).trans (show _ = some (.func (.func 97) #[] #[] : Value) from rfl)
      clear kc
      go_wp2
      go_roundw
      case rel => exact ⟨2, by omega, by go_num, Lib.hid (HA.out _)⟩
      case measure => first | (simp [intOf]; done) | (simp [intOf]; omega)
    · have q0 := (Lib.cell_of_heap kc 10).trans (show _ = some (.int .i64 3 : Value) from rfl)
      have q1 := (Lib.cell_of_heap kc 11).trans (show _ = some (.func (.func 98) #[] #[.pointer (some ⟨w.heap.size + 1 + 1 + 1, 0, none⟩), .pointer (some ⟨w.heap.size + 1, 0, none⟩), .pointer (some ⟨w.heap.size + 1 + 1, 0, none⟩)] : Value) from rfl)
      have q2 := (Lib.cell_of_heap kc 12).trans (show _ = some (.int .i64 2 : Value) from rfl)
      have q3 := (Lib.cell_of_heap kc 13).trans (show _ = some (.func (.func 99) #[] #[] : Value) from rfl)
      have q4 := (Lib.cell_of_heap kc 14).trans (show _ = some (.func (.func 100) #[] #[] : Value) from rfl)
      clear kc
      go_wp2
      go_roundw
      case rel => exact ⟨3, by omega, by go_num, Lib.hid (HA.out _)⟩
      case measure => first | (simp [intOf]; done) | (simp [intOf]; omega)
    · have q0 := (Lib.cell_of_heap kc 15).trans (show _ = some (.int .i64 4 : Value) from rfl)
      have q1 := (Lib.cell_of_heap kc 16).trans (show _ = some (.func (.func 101) #[] #[.pointer (some ⟨w.heap.size + 1 + 1 + 1, 0, none⟩), .pointer (some ⟨w.heap.size + 1, 0, none⟩)] : Value) from rfl)
      have q2 := (Lib.cell_of_heap kc 17).trans (show _ = some (.int .i64 3 : Value) from rfl)
      have q3 := (Lib.cell_of_heap kc 18).trans (show _ = some (.func (.func 102) #[] #[] : Value) from rfl)
      have q4 := (Lib.cell_of_heap kc 19).trans (show _ = some (.func (.func 103) #[] #[] : Value) from rfl)
      have kz := (HA.out (.cells #[.int .i64 4, .func (.func 101) #[] #[.pointer (some ⟨w.heap.size + 1 + 1 + 1, 0, none⟩), .pointer (some ⟨w.heap.size + 1, 0, none⟩)], .int .i64 3, .func (.func 102) #[] #[], .func (.func 103) #[] #[]] 72)).2.1
      have y0 := (Lib.cell_of_heap kz 0).trans (show _ = some (.int .i64 0 : Value) from rfl)
      have y1 := (Lib.cell_of_heap kz 1).trans (show _ = some (.nilFunc : Value) from rfl)
      have y2 := (Lib.cell_of_heap kz 2).trans (show _ = some (.int .i64 0 : Value) from rfl)
      have y3 := (Lib.cell_of_heap kz 3).trans (show _ = some (.nilFunc : Value) from rfl)
      have y4 := (Lib.cell_of_heap kz 4).trans (show _ = some (.nilFunc : Value) from rfl)
      have f0 := Lib.frozen_of_heap kz 0
      have f1 := Lib.frozen_of_heap kz 1
      have f2 := Lib.frozen_of_heap kz 2
      have f3 := Lib.frozen_of_heap kz 3
      have f4 := Lib.frozen_of_heap kz 4
      have HZ : Hid (_ ∧ _) := Lib.hid (And.intro (cset5 kz (.int .i64 4) (.func (.func 101) #[] #[.pointer (some ⟨w.heap.size + 1 + 1 + 1, 0, none⟩), .pointer (some ⟨w.heap.size + 1, 0, none⟩)]) (.int .i64 3) (.func (.func 102) #[] #[]) (.func (.func 103) #[] #[])) (Cb.set5 (HA.out (.cells #[.int .i64 4, .func (.func 101) #[] #[.pointer (some ⟨w.heap.size + 1 + 1 + 1, 0, none⟩), .pointer (some ⟨w.heap.size + 1, 0, none⟩)], .int .i64 3, .func (.func 102) #[] #[], .func (.func 103) #[] #[]] 72)).2.2 (.int .i64 4) (.func (.func 101) #[] #[.pointer (some ⟨w.heap.size + 1 + 1 + 1, 0, none⟩), .pointer (some ⟨w.heap.size + 1, 0, none⟩)]) (.int .i64 3) (.func (.func 102) #[] #[]) (.func (.func 103) #[] #[])))
      clear kc kz
      go_wp2
      clear y0 y1 y2 y3 y4 f0 f1 f2 f3 f4
      (try simp only [Exit.inBlock, Exit.then])
      refine bodyPost_ret (ret_cellT rfl _ _ w.heap.size _ _ _ _ rfl HZ.out.1 Tryz.underlying72 rfl (by kernel_rfl)) rfl ?_
      exact ⟨rfl, HZ.out.2⟩
set_option maxHeartbeats 8000000 in
theorem cond5_all (w : World) : Calls Tryz.prog 45 #[.int .i64 5] w fun e w' => e = .returned (.tuple #[.agg #[.int .i64 5, .func (.func 104) #[] #[.pointer (some ⟨w.heap.size + 1 + 1 + 1, 0, none⟩), .pointer (some ⟨w.heap.size + 1 + 1, 0, none⟩), .pointer (some ⟨w.heap.size + 1, 0, none⟩)], .int .i64 3, .func (.func 105) #[] #[], .func (.func 106) #[] #[]], .bool true]) ∧ Cb w w' := by
  have hmf : ∀ (fn : Fn) (first cap : Array Value) (w : World), (Instr.makeFunc fn first cap).run Tryz.prog w = .ok (.func fn first cap) w := fun _ _ _ _ => rfl
  obtain ⟨k0, k1, k2, k3, hb4⟩ := four_at w (.cells #[.int .i64 0, .nilFunc, .int .i64 0, .nilFunc, .nilFunc] 72) 69 69 87 (.func (.func 55) #[] #[]) (.func (.func 60) #[] #[]) (.func (.func 90) #[] #[])
  have hsz : (((((w.alloc (.cells #[.int .i64 0, .nilFunc, .int .i64 0, .nilFunc, .nilFunc] 72)).alloc (.cells #[.func (.func 55) #[] #[]] 69)).alloc (.cells #[.func (.func 60) #[] #[]] 69)).alloc (.cells #[.func (.func 90) #[] #[]] 87))).heap.size = w.heap.size + 1 + 1 + 1 + 1 := by simp
  have k6 := heap_alloc_new (((((w.alloc (.cells #[.int .i64 0, .nilFunc, .int .i64 0, .nilFunc, .nilFunc] 72)).alloc (.cells #[.func (.func 55) #[] #[]] 69)).alloc (.cells #[.func (.func 60) #[] #[]] 69)).alloc (.cells #[.func (.func 90) #[] #[]] 87))) (.cells (cndC w.heap.size).toArray 72)
  have k7 := (Below.heap_alloc (((((w.alloc (.cells #[.int .i64 0, .nilFunc, .int .i64 0, .nilFunc, .nilFunc] 72)).alloc (.cells #[.func (.func 55) #[] #[]] 69)).alloc (.cells #[.func (.func 60) #[] #[]] 69)).alloc (.cells #[.func (.func 90) #[] #[]] 87))) (.cells (cndC w.heap.size).toArray 72) w.heap.size (by rw [hsz]; omega)).trans k0
  have hB6 : Cb w _ := Cb.alloc ⟨hb4, k1, k2, k3⟩ (.cells (cndC w.heap.size).toArray 72)
  rw [hsz] at k6
  have HK := Lib.hid (And.intro k6 (And.intro k7 hB6))
  clear k0 k1 k2 k3 hb4 hsz k6 k7 hB6
  go_enter Tryz.func45, Tryz.ntmps45
  go_wp2
  go_loopw [8, 21] (fun _ i wr => ∃ j : Nat, j ≤ 4 ∧ i = .int .i64 (j : Int) ∧ Hid (wr.heap[w.heap.size + 1 + 1 + 1 + 1]? = some (.cells (cndC w.heap.size).toArray 72) ∧ wr.heap[w.heap.size]? = some (.cells #[.int .i64 0, .nilFunc, .int .i64 0, .nilFunc, .nilFunc] 72) ∧ Cb w wr)) (fun _ i _ => 6 - (intOf i).toNat)
  case atStart => exact ⟨0, Nat.zero_le _, rfl, HK⟩
  case round =>
    obtain ⟨j, hj, rfl, HO⟩ := hrel
    have HA : Hid (∀ o, (wr.alloc o).heap[w.heap.size + 1 + 1 + 1 + 1]? = some (.cells (cndC w.heap.size).toArray 72) ∧ (wr.alloc o).heap[w.heap.size]? = some (.cells #[.int .i64 0, .nilFunc, .int .i64 0, .nilFunc, .nilFunc] 72) ∧ Cb w (wr.alloc o)) := Lib.hid (fun o => ⟨(Below.heap_alloc wr o _ (Array.getElem?_eq_some_iff.1 HO.out.1).1).trans HO.out.1, (Below.heap_alloc wr o _ (Array.getElem?_eq_some_iff.1 HO.out.2.1).1).trans HO.out.2.1, HO.out.2.2.alloc o⟩)
    have kc := HO.out.1
    have hcs : j = 0 ∨ j = 1 ∨ j = 2 ∨ j = 3 ∨ j = 4 := by omega
    rcases hcs with rfl | rfl | rfl | rfl | rfl
    · have q0 := (Lib.cell_of_heap kc 0).trans (show _ = some (.int .i64 1 : Value) from rfl)
      have q1 := (Lib.cell_of_heap kc 1).trans (show _ = some (.func (.func 91) #[] #[.pointer (some ⟨w.heap.size + 1 + 1 + 1, 0, none⟩), .pointer (some ⟨w.heap.size + 1, 0, none⟩), .pointer (some ⟨w.heap.size + 1 + 1, 0, none⟩)] : Value) from rfl)
      have q2 := (Lib.cell_of_heap kc 2).trans (show _ = some (.int .i64 1 : Value) from rfl)
      have q3 := (Lib.cell_of_heap kc 3).trans (show _ = some (.func (.func 92) #[] #[] : Value) from rfl)
      have q4 := (Lib.cell_of_heap kc 4).trans (show _ = some (.func (.func 93) #[] #[] : Value) from rfl)
      clear kc
      go_wp2
      go_roundw
      case rel => exact ⟨1, by omega, by go_num, Lib.hid (HA.out _)⟩
      case measure => first | (simp [intOf]; done) | (simp [intOf]; omega)
    · have q0 := (Lib.cell_of_heap kc 5).trans (show _ = some (.int .i64 2 : Value) from rfl)
      have q1 := (Lib.cell_of_heap kc 6).trans (show _ = some (.func (.func 94) #[] #[.pointer (some ⟨w.heap.size + 1 + 1 + 1, 0, none⟩), .pointer (some ⟨w.heap.size + 1, 0, none⟩)] : Value) from rfl)
      have q2 := (Lib.cell_of_heap kc 7).trans (show _ = some (.int .i64 1 : Value) from rfl)
      have q3 := (Lib.cell_of_heap kc 8).trans (show _ = some (.func (.func 95) #[] #[] : Value) from rfl)
      have q4 := (Lib.cell_of_heap kc 9).trans (show _ = some (.func (.func 97) #[] #[] : Value) from rfl)
      clear kc
      go_wp2
      go_roundw
      case rel => exact ⟨2, by omega, by go_num, Lib.hid (HA.out _)⟩
      case measure => first | (simp [intOf]; done) | (simp [intOf]; omega)
    · have q0 := (Lib.cell_of_heap kc 10).trans (show _ = some (.int .i64 3 : Value) from rfl)
      have q1 := (Lib.cell_of_heap kc 11).trans (show _ = some (.func (.func 98) #[] #[.pointer (some ⟨w.heap.size + 1 + 1 + 1, 0, none⟩), .pointer (some ⟨w.heap.size + 1, 0, none⟩), .pointer (some ⟨w.heap.size + 1 + 1, 0, none⟩)] : Value) from rfl)
      have q2 := (Lib.cell_of_heap kc 12).trans (show _ = some (.int .i64 2 : Value) from rfl)
      have q3 := (Lib.cell_of_heap kc 13).trans (show _ = some (.func (.func 99) #[] #[] : Value) from rfl)
      have q4 := (Lib.cell_of_heap kc 14).trans (show _ = some (.func (.func 100) #[] #[] : Value) from rfl)
      clear kc
      go_wp2
      go_roundw
      case rel => exact ⟨3, by omega, by go_num, Lib.hid (HA.out _)⟩
      case measure => first | (simp [intOf]; done) | (simp [intOf]; omega)
    · have q0 := (Lib.cell_of_heap kc 15).trans (show _ = some (.int .i64 4 : Value) from rfl)
      have q1 := (Lib.cell_of_heap kc 16).trans (show _ = some (.func (.func 101) #[] #[.pointer (some ⟨w.heap.size + 1 + 1 + 1, 0, none⟩), .pointer (some ⟨w.heap.size + 1, 0, none⟩)] : Value) from rfl)
      have q2 := (Lib.cell_of_heap kc 17).trans (show _ = some (.int .i64 3 : Value) from rfl)
      have q3 := (Lib.cell_of_heap kc 18).trans (show _ = some (.func (.func 102) #[] #[] : Value) from rfl)
      have q4 := (Lib.cell_of_heap kc 19).trans (show _ = some (.func (.func 103) #[] #[] : Value) from rfl)
      clear kc
      go_wp2
      go_roundw
      case rel => exact ⟨4, by omega, by go_num, Lib.hid (HA.out _)⟩
      case measure => first | (simp [intOf]; done) | (simp [intOf]; omega)
    · have q0 := (Lib.cell_of_heap kc 20).trans (show _ = some (.int .i64 5 : Value) from rfl)
      have q1 := (Lib.cell_of_heap kc 21).trans (show _ = some (.func (.func 104) #[] #[.pointer (some ⟨w.heap.size + 1 + 1 + 1, 0, none⟩), .pointer (some ⟨w.heap.size + 1 + 1, 0, none⟩), .pointer (some ⟨w.heap.size + 1, 0, none⟩)] : Value) from rfl)
      have q2 := (Lib.cell_of_heap kc 22).trans (show _ = some (.int .i64 3 : Value) from rfl)
      have q3 := (Lib.cell_of_heap kc 23).trans (show _ = some (.func (.func 105) #[] #[] : Value) from rfl)
      have q4 := (Lib.cell_of_heap kc 24).trans (show _ = some (.func (.func 106) #[] #[] : Value) from rfl)
      have kz := (HA.out (.cells #[.int .i64 5, .func (.func 104) #[] #[.pointer (some ⟨w.heap.size + 1 + 1 + 1, 0, none⟩), .pointer (some ⟨w.heap.size + 1 + 1, 0, none⟩), .pointer (some ⟨w.heap.size + 1, 0, none⟩)], .int .i64 3, .func (.func 105) #[] #[], .func (.func 106) #[] #[]] 72)).2.1
      have y0 := (Lib.cell_of_heap kz 0).trans (show _ = some (.int .i64 0 : Value) from rfl)
      have y1 := (Lib.cell_of_heap kz 1).trans (show _ = some (.nilFunc : Value) from rfl)
      have y2 := (Lib.cell_of_heap kz 2).trans (show _ = some (.int .i64 0 : Value) from rfl)
      have y3 := (Lib.cell_of_heap kz 3).trans (show _ = some (.nilFunc : Value) from rfl)
      have y4 := (Lib.cell_of_heap kz 4).trans (show _ = some (.nilFunc : Value) from rfl)
      have f0 := Lib.frozen_of_heap kz 0
      have f1 := Lib.frozen_of_heap kz 1
      have f2 := Lib.frozen_of_heap kz 2
      have f3 := Lib.frozen_of_heap kz 3
      have f4 := Lib.frozen_of_heap kz 4
      have HZ : Hid (_ ∧ _) := Lib.hid (And.intro (cset5 kz (.int .i64 5) (.func (.func 104) #[] #[.pointer (some ⟨w.heap.size + 1 + 1 + 1, 0, none⟩), .pointer (some ⟨w.heap.size + 1 + 1, 0, none⟩), .pointer (some ⟨w.heap.size + 1, 0, none⟩)]) (.int .i64 3) (.func (.func 105) #[] #[]) (.func (.func 106) #[] #[])) (Cb.set5 (HA.out (.cells #[.int .i64 5, .func (.func 104) #[] #[.pointer (some ⟨w.heap.size + 1 + 1 + 1, 0, none⟩), .pointer (some ⟨w.heap.size + 1 + 1, 0, none⟩), .pointer (some ⟨w.heap.size + 1, 0, none⟩)], .int .i64 3, .func (.func 105) #[] #[], .func (.func 106) #[] #[]] 72)).2.2 (.int .i64 5) (.func (.func 104) #[] #[.pointer (some ⟨w.heap.size + 1 + 1 + 1, 0, none⟩), .pointer (some ⟨w.heap.size + 1 + 1, 0, none⟩), .pointer (some ⟨w.heap.size + 1, 0, none⟩)]) (.int .i64 3) (.func (.func 105) #[] #[]) (.func (.func 106) #[] #[])))
      clear kc kz
      go_wp2
      clear y0 y1 y2 y3 y4 f0 f1 f2 f3 f4
      (try simp only [Exit.inBlock, Exit.then])
      refine bodyPost_ret (ret_cellT rfl _ _ w.heap.size _ _ _ _ rfl HZ.out.1 Tryz.underlying72 rfl (by kernel_rfl)) rfl ?_
      exact ⟨rfl, HZ.out.2⟩
set_option maxHeartbeats 8000000 in
theorem cond0_all (p : Int) (hp : p < 1 ∨ 5 < p) (w : World) : Calls Tryz.prog 45 #[.int .i64 p] w fun e w' => e = .returned (.tuple #[.agg #[.int .i64 0, .nilFunc, .int .i64 0, .nilFunc, .nilFunc], .bool false]) ∧ Cb w w' := by
  have hmf : ∀ (fn : Fn) (first cap : Array Value) (w : World), (Instr.makeFunc fn first cap).run Tryz.prog w = .ok (.func fn first cap) w := fun _ _ _ _ => rfl
  obtain ⟨k0, k1, k2, k3, hb4⟩ := four_at w (.cells #[.int .i64 0, .nilFunc, .int .i64 0, .nilFunc, .nilFunc] 72) 69 69 87 (.func (.func 55) #[] #[]) (.func (.func 60) #[] #[]) (.func (.func 90) #[] #[])
  have hsz : (((((w.alloc (.cells #[.int .i64 0, .nilFunc, .int .i64 0, .nilFunc, .nilFunc] 72)).alloc (.cells #[.func (.func 55) #[] #[]] 69)).alloc (.cells #[.func (.func 60) #[] #[]] 69)).alloc (.cells #[.func (.func 90) #[] #[]] 87))).heap.size = w.heap.size + 1 + 1 + 1 + 1 := by simp
  have k6 := heap_alloc_new (((((w.alloc (.cells #[.int .i64 0, .nilFunc, .int .i64 0, .nilFunc, .nilFunc] 72)).alloc (.cells #[.func (.func 55) #[] #[]] 69)).alloc (.cells #[.func (.func 60) #[] #[]] 69)).alloc (.cells #[.func (.func 90) #[] #[]] 87))) (.cells (cndC w.heap.size).toArray 72)
  have k7 := (Below.heap_alloc (((((w.alloc (.cells #[.int .i64 0, .nilFunc, .int .i64 0, .nilFunc, .nilFunc] 72)).alloc (.cells #[.func (.func 55) #[] #[]] 69)).alloc (.cells #[.func (.func 60) #[] #[]] 69)).alloc (.cells #[.func (.func 90) #[] #[]] 87))) (.cells (cndC w.heap.size).toArray 72) w.heap.size (by rw [hsz]; omega)).trans k0
  have hB6 : Cb w _ := Cb.alloc ⟨hb4, k1, k2, k3⟩ (.cells (cndC w.heap.size).toArray 72)
  rw [hsz] at k6
  have HK := Lib.hid (And.intro k6 (And.intro k7 hB6))
  clear k0 k1 k2 k3 hb4 hsz k6 k7 hB6
  go_enter Tryz.func45, Tryz.ntmps45
  go_wp2
  have n1 : ((1 : Int) == p) = false := by rw [beq_eq_false_iff_ne]; omega
  have n2 : ((2 : Int) == p) = false := by rw [beq_eq_false_iff_ne]; omega
  have n3 : ((3 : Int) == p) = false := by rw [beq_eq_false_iff_ne]; omega
  have n4 : ((4 : Int) == p) = false := by rw [beq_eq_false_iff_ne]; omega
  have n5 : ((5 : Int) == p) = false := by rw [beq_eq_false_iff_ne]; omega
  clear hp
  go_loopw [8, 21] (fun _ i wr => ∃ j : Nat, j ≤ 5 ∧ i = .int .i64 (j : Int) ∧ Hid (wr.heap[w.heap.size + 1 + 1 + 1 + 1]? = some (.cells (cndC w.heap.size).toArray 72) ∧ wr.heap[w.heap.size]? = some (.cells #[.int .i64 0, .nilFunc, .int .i64 0, .nilFunc, .nilFunc] 72) ∧ Cb w wr)) (fun _ i _ => 6 - (intOf i).toNat)
  case atStart => exact ⟨0, Nat.zero_le _, rfl, HK⟩
  case round =>
    obtain ⟨j, hj, rfl, HO⟩ := hrel
    have HA : Hid (∀ o, (wr.alloc o).heap[w.heap.size + 1 + 1 + 1 + 1]? = some (.cells (cndC w.heap.size).toArray 72) ∧ (wr.alloc o).heap[w.heap.size]? = some (.cells #[.int .i64 0, .nilFunc, .int .i64 0, .nilFunc, .nilFunc] 72) ∧ Cb w (wr.alloc o)) := Lib.hid (fun o => ⟨(Below.heap_alloc wr o _ (Array.getElem?_eq_some_iff.1 HO.out.1).1).trans HO.out.1, (Below.heap_alloc wr o _ (Array.getElem?_eq_some_iff.1 HO.out.2.1).1).trans HO.out.2.1, HO.out.2.2.alloc o⟩)
    have kc := HO.out.1
    have hcs : j = 0 ∨ j = 1 ∨ j = 2 ∨ j = 3 ∨ j = 4 ∨ j = 5 := by omega
    rcases hcs with rfl | rfl | rfl | rfl | rfl | rfl
    · have q0 := (Lib.cell_of_heap kc 0).trans (show _ = some (.int .i64 1 : Value) from rfl)
      have q1 := (Lib.cell_of_heap kc 1).trans (show _ = some (.func (.func 91) #[] #[.pointer (some ⟨w.heap.size + 1 + 1 + 1, 0, none⟩), .pointer (some ⟨w.heap.size + 1, 0, none⟩), .pointer (some ⟨w.heap.size + 1 + 1, 0, none⟩)] : Value) from rfl)
      have q2 := (Lib.cell_of_heap kc 2).trans (show _ = some (.int .i64 1 : Value) from rfl)
      have q3 := (Lib.cell_of_heap kc 3).trans (show _ = some (.func (.func 92) #[] #[] : Value) from rfl)
      have q4 := (Lib.cell_of_heap kc 4).trans (show _ = some (.func (.func 93) #[] #[] : Value) from rfl)
      clear kc
      go_wp2
      go_roundw
      case rel => exact ⟨1, by omega, by go_num, Lib.hid (HA.out _)⟩
      case measure => first | (simp [intOf]; done) | (simp [intOf]; omega)
    · have q0 := (Lib.cell_of_heap kc 5).trans (show _ = some (.int .i64 2 : Value) from rfl)
      have q1 := (Lib.cell_of_heap kc 6).trans (show _ = some (.func (.func 94) #[] #[.pointer (some ⟨w.heap.size + 1 + 1 + 1, 0, none⟩), .pointer (some ⟨w.heap.size + 1, 0, none⟩)] : Value) from rfl)
      have q2 := (Lib.cell_of_heap kc 7).trans (show _ = some (.int .i64 1 : Value) from rfl)
      have q3 := (Lib.cell_of_heap kc 8).trans (show _ = some (.func (.func 95) #[] #[] : Value) from rfl)
      have q4 := (Lib.cell_of_heap kc 9).trans (show _ = some (.func (.func 97) #[] #[] : Value) from rfl)
      clear kc
      go_wp2
      go_roundw
      case rel => exact ⟨2, by omega, by go_num, Lib.hid (HA.out _)⟩
      case measure => first | (simp [intOf]; done) | (simp [intOf]; omega)
    · have q0 := (Lib.cell_of_heap kc 10).trans (show _ = some (.int .i64 3 : Value) from rfl)
      have q1 := (Lib.cell_of_heap kc 11).trans (show _ = some (.func (.func 98) #[] #[.pointer (some ⟨w.heap.size + 1 + 1 + 1, 0, none⟩), .pointer (some ⟨w.heap.size + 1, 0, none⟩), .pointer (some ⟨w.heap.size + 1 + 1, 0, none⟩)] : Value) from rfl)
      have q2 := (Lib.cell_of_heap kc 12).trans (show _ = some (.int .i64 2 : Value) from rfl)
      have q3 := (Lib.cell_of_heap kc 13).trans (show _ = some (.func (.func 99) #[] #[] : Value) from rfl)
      have q4 := (Lib.cell_of_heap kc 14).trans (show _ = some (.func (.func 100) #[] #[] : Value) from rfl)
      clear kc
      go_wp2
      go_roundw
      case rel => exact ⟨3, by omega, by go_num, Lib.hid (HA.out _)⟩
      case measure => first | (simp [intOf]; done) | (simp [intOf]; omega)
    · have q0 := (Lib.cell_of_heap kc 15).trans (show _ = some (.int .i64 4 : Value) from rfl)
      have q1 := (Lib.cell_of_heap kc 16).trans (show _ = some (.func (.func 101) #[] #[.pointer (some ⟨w.heap.size + 1 + 1 + 1, 0, none⟩), .pointer (some ⟨w.heap.size + 1, 0, none⟩)] : Value) from rfl)
      have q2 := (Lib.cell_of_heap kc 17).trans (show _ = some (.int .i64 3 : Value) from rfl)
      have q3 := (Lib.cell_of_heap kc 18).trans (show _ = some (.func (.func 102) #[] #[] : Value) from rfl)
      have q4 := (Lib.cell_of_heap kc 19).trans (show _ = some (.func (.func 103) #[] #[] : Value) from rfl)
      clear kc
      go_wp2
      go_roundw
      case rel => exact ⟨4, by omega, by go_num, Lib.hid (HA.out _)⟩
      case measure => first | (simp [intOf]; done) | (simp [intOf]; omega)
    · have q0 := (Lib.cell_of_heap kc 20).trans (show _ = some (.int .i64 5 : Value) from rfl)
      have q1 := (Lib.cell_of_heap kc 21).trans (show _ = some (.func (.func 104) #[] #[.pointer (some ⟨w.heap.size + 1 + 1 + 1, 0, none⟩), .pointer (some ⟨w.heap.size + 1 + 1, 0, none⟩), .pointer (some ⟨w.heap.size + 1, 0, none⟩)] : Value) from rfl)
      have q2 := (Lib.cell_of_heap kc 22).trans (show _ = some (.int .i64 3 : Value) from rfl)
      have q3 := (Lib.cell_of_heap kc 23).trans (show _ = some (.func (.func 105) #[] #[] : Value) from rfl)
      have q4 := (Lib.cell_of_heap kc 24).trans (show _ = some (.func (.func 106) #[] #[] : Value) from rfl)
      clear kc
      go_wp2
      go_roundw
      case rel => exact ⟨5, by omega, by go_num, Lib.hid (HA.out _)⟩
      case measure => first | (simp [intOf]; done) | (simp [intOf]; omega)
    · have kz := (HO.out).2.1
      have y0 := (Lib.cell_of_heap kz 0).trans (show _ = some (.int .i64 0 : Value) from rfl)
      have y1 := (Lib.cell_of_heap kz 1).trans (show _ = some (.nilFunc : Value) from rfl)
      have y2 := (Lib.cell_of_heap kz 2).trans (show _ = some (.int .i64 0 : Value) from rfl)
      have y3 := (Lib.cell_of_heap kz 3).trans (show _ = some (.nilFunc : Value) from rfl)
      have y4 := (Lib.cell_of_heap kz 4).trans (show _ = some (.nilFunc : Value) from rfl)
      have f0 := Lib.frozen_of_heap kz 0
      have f1 := Lib.frozen_of_heap kz 1
      have f2 := Lib.frozen_of_heap kz 2
      have f3 := Lib.frozen_of_heap kz 3
      have f4 := Lib.frozen_of_heap kz 4
      have HZ : Hid (_ ∧ _) := Lib.hid (And.intro (cset5 kz (.int .i64 0) (.nilFunc) (.int .i64 0) (.nilFunc) (.nilFunc)) (Cb.set5 (HO.out).2.2 (.int .i64 0) (.nilFunc) (.int .i64 0) (.nilFunc) (.nilFunc)))
      clear kc kz
      go_wp2
      clear y0 y1 y2 y3 y4 f0 f1 f2 f3 f4
      (try simp only [Exit.inBlock, Exit.then])
      refine bodyPost_ret (ret_cellT rfl _ _ w.heap.size _ _ _ _ rfl HZ.out.1 Tryz.underlying72 rfl (by kernel_rfl)) rfl ?_
      exact ⟨rfl, HZ.out.2⟩
theorem cond1_any (w : World) : Calls Tryz.prog 45 #[.int .i64 1] w fun e w' => e = .returned (.tuple #[.agg #[.int .i64 1, .func (.func 91) #[] #[.pointer (some ⟨w.heap.size + 1 + 1 + 1, 0, none⟩), .pointer (some ⟨w.heap.size + 1, 0, none⟩), .pointer (some ⟨w.heap.size + 1 + 1, 0, none⟩)], .int .i64 1, .func (.func 92) #[] #[], .func (.func 93) #[] #[]], .bool true]) ∧ Below w.heap.size w w' := (cond1_all w).mono fun _ _ h => ⟨h.1, h.2.1⟩
theorem cond2_any (w : World) : Calls Tryz.prog 45 #[.int .i64 2] w fun e w' => e = .returned (.tuple #[.agg #[.int .i64 2, .func (.func 94) #[] #[.pointer (some ⟨w.heap.size + 1 + 1 + 1, 0, none⟩), .pointer (some ⟨w.heap.size + 1, 0, none⟩)], .int .i64 1, .func (.func 95) #[] #[], .func (.func 97) #[] #[]], .bool true]) ∧ Below w.heap.size w w' := (cond2_all w).mono fun _ _ h => ⟨h.1, h.2.1⟩
theorem cond3_any (w : World) : Calls Tryz.prog 45 #[.int .i64 3] w fun e w' => e = .returned (.tuple #[.agg #[.int .i64 3, .func (.func 98) #[] #[.pointer (some ⟨w.heap.size + 1 + 1 + 1, 0, none⟩), .pointer (some ⟨w.heap.size + 1, 0, none⟩), .pointer (some ⟨w.heap.size + 1 + 1, 0, none⟩)], .int .i64 2, .func (.func 99) #[] #[], .func (.func 100) #[] #[]], .bool true]) ∧ Below w.heap.size w w' := (cond3_all w).mono fun _ _ h => ⟨h.1, h.2.1⟩
theorem cond4_any (w : World) : Calls Tryz.prog 45 #[.int .i64 4] w fun e w' => e = .returned (.tuple #[.agg #[.int .i64 4, .func (.func 101) #[] #[.pointer (some ⟨w.heap.size + 1 + 1 + 1, 0, none⟩), .pointer (some ⟨w.heap.size + 1, 0, none⟩)], .int .i64 3, .func (.func 102) #[] #[], .func (.func 103) #[] #[]], .bool true]) ∧ Below w.heap.size w w' := (cond4_all w).mono fun _ _ h => ⟨h.1, h.2.1⟩
theorem cond5_any (w : World) : Calls Tryz.prog 45 #[.int .i64 5] w fun e w' => e = .returned (.tuple #[.agg #[.int .i64 5, .func (.func 104) #[] #[.pointer (some ⟨w.heap.size + 1 + 1 + 1, 0, none⟩), .pointer (some ⟨w.heap.size + 1 + 1, 0, none⟩), .pointer (some ⟨w.heap.size + 1, 0, none⟩)], .int .i64 3, .func (.func 105) #[] #[], .func (.func 106) #[] #[]], .bool true]) ∧ Below w.heap.size w w' := (cond5_all w).mono fun _ _ h => ⟨h.1, h.2.1⟩
theorem cond0_any (p : Int) (hp : p < 1 ∨ 5 < p) (w : World) : Calls Tryz.prog 45 #[.int .i64 p] w fun e w' => e = .returned (.tuple #[.agg #[.int .i64 0, .nilFunc, .int .i64 0, .nilFunc, .nilFunc], .bool false]) ∧ Below w.heap.size w w' := (cond0_all p hp w).mono fun _ _ h => ⟨h.1, h.2.1⟩
end Go.Proofs.YtjpmhbnikoggaaaGreatDoor
