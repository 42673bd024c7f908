/- Layer 5: Sub of the program with rows of its own; the boxes of the law that rebuilds. -/
import Derived.Test.YtcbmncafmofcpaaNa
namespace Go.Proofs.Ytcbmncafmofcpaa
open Go.RowKit Go.Proofs.Ws Go.Maps
set_option maxRecDepth 100000 in
set_option maxHeartbeats 4000000 in
theorem pSub_own (f : List Nd) (i : Int) (A : Option Addr) (n c : Nat) (w : World) (hc : n ≤ c) (hR : Reads w w.heap.size 6 A n (nds f)) (hm : n ≤ maxLen) :
    Calls Try.prog 29 #[.slice A n c, .int .i64 i] w fun e w' => ∃ A' c', e = .returned (.slice A' (subF f i).length c') ∧ w'.ownsRow w.heap.size 44 6 (.slice A' (subF f i).length c') (subF f i).length (nds (subF f i)) ∧ Below w.heap.size w w' := by
  have hl := hR.nd_len
  have HV := Lib.hid (pValid_any f A n c w hR hm)
  have HR := Lib.hid hR
  unfold maxLen at hm
  by_cases hz : fErr f = 0
  · by_cases h0 : 0 ≤ i
    · by_cases h1 : i < n
      · obtain ⟨k, rfl⟩ : ∃ k : Nat, i = (k : Int) := ⟨i.toNat, by omega⟩
        have hk : k < n := by omega
        have h200 := (fErr_ok hz).2.1
        have HC : Hid (∀ W, Reads W W.heap.size 6 A n (nds f) → Calls Try.prog 54 #[.slice A (k + 1) c] W fun e w' => ∃ A' c', e = .returned (.slice A' (subF f k).length c') ∧ w'.ownsRow W.heap.size 44 6 (.slice A' (subF f k).length c') (subF f k).length (nds (subF f k)) ∧ Below W.heap.size W w') :=
          Lib.hid (fun W h => by
            have := pCanon_own (f.take (k + 1)) ((OkL_of hz).take (by omega)) A (k + 1) c W (h.takeN (by omega)) (by omega)
            have e1 : subF f k = canonF (f.take (k + 1)) := by unfold subF; rw [if_pos ⟨hz, by omega, by omega⟩, Int.toNat_natCast]
            rw [e1]; exact this)
        rw [hz] at HV
        generalize subF f k = q at *
        have d0 : decide ((k : Int) < 0) = false := decide_eq_false (by omega)
        have d1 : decide ((k : Int) ≥ (n : Int)) = false := decide_eq_false (by omega)
        have d2 : decide (n ≤ k) = false := decide_eq_false (by omega)
        clear hR hl hz h0 h1
        go_enter Try.func29, Try.ntmps29
        go_wp2_with fail
        refine (HV.out).mono ?_
        rintro e w1 ⟨rfl, hb⟩
        have HB := Lib.hid hb
        have hR1 := (HR.out.below hb).more hb.size
        clear hb
        go_wp2_with fail
        refine (HC.out w1 hR1).mono ?_
        rintro e w2 ⟨A', c', rfl, hR2, hb2⟩
        have HR2 := Lib.hid (own_baseR hR2 HB.out.size)
        have HB2 := Lib.hid (HB.out.trans (hb2.mono HB.out.size))
        clear hR2 hb2 hR1
        go_wp2
        go_ret
        exact ⟨A', c', rfl, HR2.out, HB2.out⟩
      · have d0 : decide (i < 0) = false := decide_eq_false (by omega)
        have d1 : decide (i ≥ (n : Int)) = true := decide_eq_true (by omega)
        have HE : Hid (subF f i = []) := Lib.hid (by unfold subF; rw [if_neg (by omega)])
        rw [hz] at HV
        generalize subF f i = q at *
        have HE2 : q = [] := HE.out
        subst HE2
        clear HE hR h0 h1 hz hl
        go_enter Try.func29, Try.ntmps29
        go_wp2_with fail
        refine (HV.out).mono ?_
        rintro e w1 ⟨rfl, hb1⟩
        have HB1 := Lib.hid hb1
        clear hb1
        go_wp2
        go_ret
        exact ⟨none, 0, rfl, World.ownsRow_nil _ _ _ _, HB1.out⟩
    · have d0 : decide (i < 0) = true := decide_eq_true (by omega)
      have HE : Hid (subF f i = []) := Lib.hid (by unfold subF; rw [if_neg (by omega)])
      rw [hz] at HV
      generalize subF f i = q at *
      have HE2 : q = [] := HE.out
      subst HE2
      clear HE hR h0 hz hl
      go_enter Try.func29, Try.ntmps29
      go_wp2_with fail
      refine (HV.out).mono ?_
      rintro e w1 ⟨rfl, hb1⟩
      have HB1 := Lib.hid hb1
      clear hb1
      go_wp2
      go_ret
      exact ⟨none, 0, rfl, World.ownsRow_nil _ _ _ _, HB1.out⟩
  · have HE : Hid (subF f i = []) := Lib.hid (by unfold subF; rw [if_neg (fun e => hz e.1)])
    have hzb : (fErr f == 0) = false := by simpa using hz
    rw [hzb] at HV
    generalize subF f i = q at *
    have HE2 : q = [] := HE.out
    subst HE2
    clear HE hR hz hl
    go_enter Try.func29, Try.ntmps29
    go_wp2_with fail
    refine (HV.out).mono ?_
    rintro e w1 ⟨rfl, hb1⟩
    have HB1 := Lib.hid hb1
    clear hb1
    go_wp2
    go_ret
    exact ⟨none, 0, rfl, World.ownsRow_nil _ _ _ _, HB1.out⟩
/-- the law's two boxes: a node, and the parts of a constructor -/
structure PB (W : World) (g : Nat) (x : Nd) (v4 v5 : Value) : Prop where
  bx : W.heap[g]? = some (.cells #[.int .i64 x.op, .int .i64 x.i, .int .i64 x.e, .int .i64 x.g, .int .i64 x.x, .int .i64 x.y] 44 (0, 0))
  pb : W.heap[g + 1]? = some (.cells #[.int .i64 x.op, .int .i64 x.i, .int .i64 x.e, .int .i64 x.g, v4, v5] 35 (0, 0))
theorem PB.below {W W' : World} {g : Nat} {x : Nd} {v4 v5 : Value} (h : PB W g x v4 v5) (hb : Below W.heap.size W W') : PB W' g x v4 v5 :=
  ⟨(hb.block g (Array.getElem?_eq_some_iff.1 h.bx).1).trans h.bx, (hb.block (g + 1) (Array.getElem?_eq_some_iff.1 h.pb).1).trans h.pb⟩
theorem PB.cells {W : World} {g : Nat} {x : Nd} {v4 v5 : Value} (h : PB W g x v4 v5) :
    W.cell? ⟨g, 0, none⟩ = some (.int .i64 x.op) ∧ W.cell? ⟨g, 4, none⟩ = some (.int .i64 x.x) ∧ W.cell? ⟨g, 5, none⟩ = some (.int .i64 x.y) ∧
    W.cell? ⟨g + 1, 0, none⟩ = some (.int .i64 x.op) ∧ W.cell? ⟨g + 1, 1, none⟩ = some (.int .i64 x.i) ∧ W.cell? ⟨g + 1, 2, none⟩ = some (.int .i64 x.e) ∧ W.cell? ⟨g + 1, 3, none⟩ = some (.int .i64 x.g) ∧
    W.cell? ⟨g + 1, 4, none⟩ = some v4 ∧ W.cell? ⟨g + 1, 5, none⟩ = some v5 ∧ W.frozen? ⟨g + 1, 4, none⟩ = false ∧ W.frozen? ⟨g + 1, 5, none⟩ = false := by
  have h1 := Lib.cell_of_heap h.bx
  have h2 := Lib.cell_of_heap h.pb
  exact ⟨h1 0, h1 4, h1 5, h2 0, h2 1, h2 2, h2 3, h2 4, h2 5, Lib.frozen_of_heap h.pb 4, Lib.frozen_of_heap h.pb 5⟩
theorem PB.set4 {W : World} {g : Nat} {x : Nd} {v4 v5 v : Value} (h : PB W g x v4 v5) : PB (W.setCell ⟨g + 1, 4, none⟩ v) g x v v5 :=
  ⟨(Below.heap_setCell _ _ _ _ (by show g ≠ g + 1; omega)).trans h.bx, by have := h.pb; simp [World.setCell, Array.getElem?_modify, this]⟩
theorem PB.set5 {W : World} {g : Nat} {x : Nd} {v4 v5 v : Value} (h : PB W g x v4 v5) : PB (W.setCell ⟨g + 1, 5, none⟩ v) g x v4 v :=
  ⟨(Below.heap_setCell _ _ _ _ (by show g ≠ g + 1; omega)).trans h.bx, by have := h.pb; simp [World.setCell, Array.getElem?_modify, this]⟩
end Go.Proofs.Ytcbmncafmofcpaa
