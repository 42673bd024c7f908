/- Layer 3: Join told by its bounds; partitions by keys; the bounds of two partitions. -/
import Derived.Test.YtichhbnpdhfimaaDoorPn
namespace Go.Proofs.YtichhbnpdhfimaaDoor
open Go.RowKit Go.Proofs.Ws
theorem can_nil {q : List Int} (h : Can 0 q) : q = [] := List.length_eq_zero_iff.1 h.len
theorem lub_nil : Lub 0 [] [] [] :=
  ⟨⟨rfl, by decide⟩, fun i => by rw [fo_out (l := []) (n := 0) rfl (by omega)], fun i => by rw [fo_out (l := []) (n := 0) rfl (by omega)], fun q _ _ i => by rw [fo_out (l := []) (n := 0) rfl (by omega)]⟩
set_option maxRecDepth 100000 in
set_option maxHeartbeats 4000000 in
theorem join0_any (A A2 : Option Addr) (c c2 : Nat) (w : World) :
    Calls Tryd.prog 51 #[.slice A 0 c, .slice A2 0 c2] w (GivesP [] 0 w) := by
  have hR : Reads w w.heap.size 1 A 0 (ints []) := ⟨by simp [ints], fun h => absurd h (by omega)⟩
  have hR2 : Reads w w.heap.size 1 A2 0 (ints []) := ⟨by simp [ints], fun h => absurd h (by omega)⟩
  have hmf : ∀ (fn : Fn) (first cap : Array Value) (w : World), (Instr.makeFunc fn first cap).run Tryd.prog w = .ok (.func fn first cap) w := fun _ _ _ _ => rfl
  have H1 := Lib.hid (checkBoth_ok [] [] A A2 0 c c2 w hR hR2 (by omega) (by decide) (by decide))
  have H2 := Lib.hid (cloneI_any [] A 0 c w hR (by omega))
  clear hR hR2
  go_enter Tryd.func51, Tryd.ntmps51
  go_wp2_with fail
  refine (H1.out).mono ?_
  rintro e w' ⟨rfl, rfl⟩
  go_wp2_with fail
  refine (H2.out).mono ?_
  rintro e w1 ⟨A1, c1, rfl, hg, hb1⟩
  have HB1 := Lib.hid hb1
  have hsz1 := hb1.size
  have hcP : (w1.alloc (.cells #[.slice A1 0 c1] 24)).cell? ⟨w1.heap.size, 0, none⟩ = some (.slice A1 0 c1) := by rw [Lib.cell_of_heap (heap_alloc_new w1 _)]; rfl
  have HB2 : Hid (Below w.heap.size w (w1.alloc (.cells #[.slice A1 0 c1] 24))) := Lib.hid (hb1.alloc hsz1 _)
  clear hg hb1
  go_wp2
  generalize w1.alloc (.cells #[.slice A1 0 c1] 24) = w2 at *
  clear hmf
  go_loopw [25] (fun i wr => i = .int .i64 ((0 : Nat) : Int) ∧ wr = w2) (fun i _ => 0 - (intOf i).toNat)
  case atStart => exact ⟨rfl, rfl⟩
  case round =>
    obtain ⟨rfl, rfl⟩ := hrel
    go_wp2
    go_loopw [47] (fun i wr' => i = .int .i64 ((0 : Nat) : Int) ∧ wr' = wr) (fun i _ => 0 - (intOf i).toNat)
    case atStart => exact ⟨rfl, rfl⟩
    case round =>
      obtain ⟨rfl, rfl⟩ := hrel
      go_wp2
      go_ret2
      exact ⟨A1, c1, rfl, ⟨by simp [ints], fun h => absurd h (by omega)⟩, HB2.out⟩
theorem joinLub_any (a b : List Int) (A A2 : Option Addr) (n c c2 : Nat) (w : World) (hR : Reads w w.heap.size 1 A n (ints a)) (hR2 : Reads w w.heap.size 1 A2 n (ints b)) (hm : n ≤ 64) (ha : Can n a) (hb : Can n b) :
    Calls Tryd.prog 51 #[.slice A n c, .slice A2 n c2] w fun e w' => ∃ j, Lub n a b j ∧ GivesP j n w e w' := by
  by_cases h : 0 < n
  · exact (join_any a b A A2 n c c2 w hR hR2 hm ha.ok hb.ok h).mono fun _ _ ⟨l, hl, hg⟩ => ⟨rootL l n, hl.lub ha hb hm, hg⟩
  · obtain rfl : n = 0 := by omega
    have e1 := can_nil ha
    have e2 := can_nil hb
    subst e1
    subst e2
    exact (join0_any A A2 c c2 w).mono fun _ _ hg => ⟨[], lub_nil, hg⟩
theorem keyP_can (l : List Int) (hm : l.length ≤ 64) : Can l.length (keyP l) := canon_can (by simp) hm
theorem can_wf {n : Nat} {q : List Int} (h : Can n q) (hm : n ≤ 64) : WFs q := fun i => by
  by_cases hi : i < q.length
  · have hf := part_forest h.ok
    rw [hf.at_ hi]
    have := hf.le i
    have := h.len
    exact WalkArith.wf_i64 (by omega)
  · rw [List.getD_eq_getElem?_getD, List.getElem?_eq_none (by omega)]; decide
theorem meet_can {n : Nat} {a b : List Int} (ha : Can n a) (hm : n ≤ 64) : Can n (canonL a b) := canon_can ha.len hm
theorem refines_meet {n : Nat} {a b : List Int} (ha : Can n a) (hb : Can n b) (hm : n ≤ 64) : canonL a b = a ↔ Rf a b := by
  constructor
  · intro e
    have := meet_r ha hb
    rwa [e] at this
  · intro h
    exact Rf.antisymm (meet_can ha hm) ha (meet_l ha) (meet_glb ha hb ha ha.refl h)
theorem refines_join {n : Nat} {a b j : List Int} (hb : Can n b) (hj : Lub n a b j) : j = b ↔ Rf a b := by
  constructor
  · rintro rfl; exact hj.l
  · intro h
    exact Rf.antisymm hj.can hb (hj.least b h hb.refl) hj.r
theorem meet_comm {n : Nat} {a b : List Int} (ha : Can n a) (hb : Can n b) (hm : n ≤ 64) : canonL a b = canonL b a :=
  Rf.antisymm (meet_can ha hm) (meet_can hb hm) (meet_glb hb ha (meet_can ha hm) (meet_r ha hb) (meet_l ha)) (meet_glb ha hb (meet_can hb hm) (meet_r hb ha) (meet_l hb))
theorem meet_self {n : Nat} {a : List Int} (ha : Can n a) (hm : n ≤ 64) : canonL a a = a := (refines_meet ha ha hm).2 ha.refl
theorem meet_assoc {n : Nat} {a b c : List Int} (ha : Can n a) (hb : Can n b) (hc : Can n c) (hm : n ≤ 64) : canonL a (canonL b c) = canonL (canonL a b) c := by
  have hab := meet_can (b := b) ha hm
  have hbc := meet_can (b := c) hb hm
  refine Rf.antisymm (meet_can ha hm) (meet_can hab hm) ?_ ?_
  · exact meet_glb hab hc (meet_can ha hm) (meet_glb ha hb (meet_can ha hm) (meet_l ha) ((meet_r ha hbc).trans (meet_l hb))) ((meet_r ha hbc).trans (meet_r hb hc))
  · exact meet_glb ha hbc (meet_can hab hm) ((meet_l hab).trans (meet_l ha)) (meet_glb hb hc (meet_can hab hm) ((meet_l hab).trans (meet_r ha hb)) (meet_r hab hc))
theorem absorb_meet {n : Nat} {a b j : List Int} (ha : Can n a) (hj : Lub n a b j) (hm : n ≤ 64) : canonL a j = a := (refines_meet ha hj.can hm).2 hj.l
theorem absorb_join {n : Nat} {a b k : List Int} (ha : Can n a) (hk : Lub n a (canonL a b) k) : k = a :=
  Rf.antisymm hk.can ha (hk.least a ha.refl (meet_l ha)) hk.l
end Go.Proofs.YtichhbnpdhfimaaDoor
