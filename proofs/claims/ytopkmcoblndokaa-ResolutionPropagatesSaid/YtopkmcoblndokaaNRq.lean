/- Layer 6: texts joined: Oy Ra. -/
import Derived.Test.YtopkmcoblndokaaNRp
import Derived.Test.YtopkmcoblndokaaRows
import Derived.ProofKit
import Derived.OpenShut
import Derived.LaidMore
import Derived.Lay
import Derived.Shelf.Vars
import Derived.Deep.DeepHandedRow
import Derived.SevenTiedAt
import Derived.SliceStrings
import Derived.Deep.Slices
import Derived.Deep.Fields
import Derived.ChangeSame
/- Layer 10: what the rows give the walks: a world for the witness, the arguments that came in. -/
namespace Go.Proofs.Ytopkmcoblndokaa
open Go.ChangeShapes Go.WideShapes Go.ChangeAt Go.RowKit Go.Proofs.Ws Go.Deep
set_option maxRecDepth 100000
def LLaid : List (String × DataW Unit) := Rows.resolutionDecidesRow.laid
theorem own : ownKnob Try.prog.godebug = none := by kernel_rfl
theorem laidOut : laidOutB Try.prog = true := by kernel_rfl
theorem lt_of_cell {W : World} (a : Addr) (v : Value) (hv : W.cell? a = some v) : a.block < W.heap.size := by
  rcases Nat.lt_or_ge a.block W.heap.size with h' | h'
  · exact h'
  · simp [World.cell?, Array.getElem?_eq_none h'] at hv
noncomputable def laidW (os : Os) : World := World.laidAll Try.prog os LLaid
theorem laidW_os (os : Os) : (laidW os).os = os := World.laidAll_os _ _ _
theorem laid_met (os : Os) (args : Array Value) : laidMet Try.prog LLaid ((laidW os).forCall (fun _ _ => 0) ⟨#[], args, []⟩).memory :=
  laidMet_laidAll _ (by kernel_rfl) (by kernel_rfl)
theorem vars_ok (os : Os) (args : Array Value) : ((laidW os).forCall (fun _ _ => 0) ⟨#[], args, []⟩).variablesB Try.prog = true := by kernel_rfl
theorem heap_ok (os : Os) (args : Array Value) : (((laidW os).forCall (fun _ _ => 0) ⟨#[], args, []⟩).heap.toList.drop Try.prog.globals.size).take ((begin Try.prog (fun _ _ => 0) default).world.heap.size - Try.prog.globals.size) =
      (begin Try.prog (fun _ _ => 0) default).world.heap.toList.drop Try.prog.globals.size := by kernel_rfl
theorem sliceCells : Try.prog.cellsOf 23 = 1 := by kernel_rfl

theorem lineCells : Try.prog.cellsOf 43 = 4 := by kernel_rfl
def IRow (w : World) (A : Option Addr) (n c : Nat) (l : List Int) : Prop := Reads w w.heap.size 1 A n (ints l) ∧ n ≤ c ∧ n ≤ maxLen
section
variable {H : Type} {enc : TypeId × Value → H} {w : World} {base : Nat} {spare : Nat → Bool} {held : Bool}
theorem open_is0 {fuel : Nat} {v : Value} {x : DataW H × List MemPlace} (h : DataW.trod enc Try.prog w base spare held fuel 23 [v] = some x) : ∃ A n c l, v = .slice A n c ∧ IRow w A n c l := by
  rcases open_ints Try.underlying23 Try.underlying3 (by kernel_rfl) h with ⟨hcs, _⟩ | ⟨a, len, cap, zs, hcs, _, hl, hm, hz, _, hcell, _⟩
  · simp at hcs
    exact ⟨none, 0, 0, [], hcs, (by unfold ints; exact Reads.none_), Nat.le_refl _, Nat.zero_le _⟩
  · simp at hcs
    have hlz : len ≤ zs.length := by rw [hz]; split <;> omega
    refine ⟨some a, len, cap, zs.take len, hcs, ⟨by rw [ints_length, List.length_take]; omega, fun h0 => ⟨a, rfl, ?_, fun j u hj => ?_⟩⟩, hl, by omega⟩
    · have h1 := hcell 0 (by omega)
      have := lt_of_cell _ _ h1
      rwa [block_of_add] at this
    · unfold ints at hj
      rw [List.getElem?_map, List.getElem?_take] at hj
      split at hj
      · rename_i hjl
        have hjz : j < zs.length := by omega
        rw [List.getElem?_eq_getElem hjz] at hj
        simp at hj
        rw [hcell j hjz, List.getD_eq_getElem?_getD, List.getElem?_eq_getElem hjz, ← hj]
        rfl
      · cases hj
theorem open_rows {fuel : Nat} {v : Value} {x : DataW H × List MemPlace} (h : DataW.trod enc Try.prog w base spare held fuel 22 [v] = some x) : ∃ A n c ls, v = .slice A n c ∧ ZsR w w.heap.size A n ls ∧ n ≤ maxLen := by
  rcases open_slice Try.underlying22 h with ⟨hcs, _⟩ | ⟨a, len, cap, m, n', D, Pl, hcs, hb, hl, hm, hmm, _, hi⟩
  · simp at hcs
    exact ⟨none, 0, 0, [], hcs, ⟨rfl, [], Reads.none_, fun j hj => absurd hj (by omega)⟩, Nat.zero_le _⟩
  · simp at hcs
    have hlm : len ≤ m := by rw [hmm]; split <;> omega
    have hex : ∀ i, i < len → ∃ p : Value × List Int, w.cell? (a.add i) = some p.1 ∧ ∃ Aj cj, p.1 = .slice Aj p.2.length cj ∧ Reads w w.heap.size 1 Aj p.2.length (ints p.2) ∧ p.2.length ≤ maxLen := fun i hin => by
      obtain ⟨cs', h1, h2⟩ := hi i (by omega)
      obtain ⟨_, hlen, h3⟩ := World.cells?_some h1
      rw [sliceCells] at h3 hlen
      match cs', hlen with
      | [v'], _ =>
        obtain ⟨Aj, nj, cj, l, rfl, hr⟩ := open_is0 h2
        have h6 := h3 0 (by decide)
        have hlj := hr.1.int_len
        have e0 : (a.add (i * 1)).add 0 = a.add i := by rw [Nat.mul_one]; generalize a.add i = b; cases b; simp [Addr.add]
        refine ⟨(.slice Aj nj cj, l), ?_, Aj, cj, ?_, ?_, ?_⟩
        · rw [e0] at h6
          exact h6
        · dsimp only; rw [hlj]
        · dsimp only; rw [hlj]; exact hr.1
        · dsimp only; rw [hlj]; exact hr.2.2
    obtain ⟨g, hg⟩ : ∃ g : Nat → Value × List Int, ∀ i, i < len → w.cell? (a.add i) = some (g i).1 ∧ ∃ Aj cj, (g i).1 = .slice Aj (g i).2.length cj ∧ Reads w w.heap.size 1 Aj (g i).2.length (ints (g i).2) ∧ (g i).2.length ≤ maxLen :=
      ⟨fun i => if hi : i < len then Classical.choose (hex i hi) else (.slice none 0 0, []), fun i hin => by dsimp only; rw [dif_pos hin]; exact Classical.choose_spec (hex i hin)⟩
    have hgl : ∀ j, j < len → ((List.range len).map (fun i => (g i).2)).getD j [] = (g j).2 := fun j hj => by simp [hj]
    refine ⟨some a, len, cap, (List.range len).map (fun i => (g i).2), hcs, ⟨by simp, (List.range len).map (fun i => (g i).1), ⟨by simp, fun h0 => ⟨a, rfl, ?_, fun j u hu => ?_⟩⟩, fun j hj => ?_⟩, by omega⟩
    · have h1 := (hg 0 h0).1
      have := lt_of_cell _ _ h1
      rwa [block_of_add] at this
    · have hj : j < len := by
        have := (List.getElem?_eq_some_iff.1 hu).1
        simpa using this
      simp [hj] at hu
      rw [← hu]
      exact (hg j hj).1
    · obtain ⟨_, Aj, cj, e1, e2, e3⟩ := hg j hj
      rw [hgl j hj]
      exact ⟨Aj, cj, by simp [hj, e1], e2, e3⟩
theorem field_int {n' : Nat} {cs : List Value} {xs : List (DataW H × List MemPlace)} {j : Nat} (hl : cs.length = 4) (hj : j < 4) (hx : j < xs.length)
    (h : DataW.trod enc Try.prog w base spare held n' 3 ((cs.drop j).take (Try.prog.cellsOf 3)) = xs[j]?) : ∃ z : Int, cs[j]? = some (.int .i64 z) := by
  rw [intCells, List.drop_eq_getElem_cons (by omega), List.take_succ_cons, List.take_zero, List.getElem?_eq_getElem hx] at h
  obtain ⟨z, hz, _, hw⟩ := DataW.trod_int Try.underlying3 h
  refine ⟨z, ?_⟩
  rw [List.getElem?_eq_getElem (by omega)]
  injection hz with hz
  rw [hz]
theorem one_line {n' : Nat} {cs : List Value} {x : DataW H × List MemPlace} (h : DataW.trod enc Try.prog w base spare held n' 43 cs = some x) :
    ∃ (y : Ln) (Aj : Option Addr) (cj : Nat), cs = lnL y Aj cj ∧ LnR w w.heap.size y Aj cj := by
  obtain ⟨xs, m, _, _, hl, hxl, hf⟩ := DataW.trod_struct Try.underlying43 h
  rw [lineCells] at hl
  have hx4 : xs.length = 4 := hxl
  have h0 := hf 0 _ rfl
  obtain ⟨z1, c1⟩ := field_int (j := 1) hl (by decide) (by omega) (hf 1 _ rfl)
  obtain ⟨z2, c2⟩ := field_int (j := 2) hl (by decide) (by omega) (hf 2 _ rfl)
  obtain ⟨z3, c3⟩ := field_int (j := 3) hl (by decide) (by omega) (hf 3 _ rfl)
  match cs, hl with
  | [a, b, c, d], _ =>
    rw [List.getElem?_eq_getElem (by omega)] at h0
    obtain ⟨A, n, cj, l, rfl, hr⟩ := open_is0 (v := a) h0
    simp at c1 c2 c3
    have hlen := hr.1.int_len
    subst c1 c2 c3
    refine ⟨⟨l, z1, z2, z3⟩, A, cj, ?_, ⟨?_, ?_, ?_⟩⟩
    · unfold lnL; rw [hlen]
    · dsimp only; rw [hlen]; exact hr.1
    · dsimp only; rw [hlen]; exact hr.2.2
    · dsimp only; rw [hlen]; exact hr.2.1
theorem open_lines {fuel : Nat} {v : Value} {x : DataW H × List MemPlace} (h : DataW.trod enc Try.prog w base spare held fuel 41 [v] = some x) : ∃ A n c s, v = .slice A n c ∧ LnsR w w.heap.size A n s ∧ n ≤ maxLen := by
  rcases open_slice Try.underlying41 h with ⟨hcs, _⟩ | ⟨a, len, cap, m, n', D, Pl, hcs, hb, hl, hm, hmm, _, hi⟩
  · simp at hcs
    exact ⟨none, 0, 0, [], hcs, LnsR.nil _ _ _, Nat.zero_le _⟩
  · simp at hcs
    have hlm : len ≤ m := by rw [hmm]; split <;> omega
    have hex : ∀ i, i < len → ∃ p : Ln × Option Addr × Nat, (∀ j, j < 4 → w.cell? (a.add (i * 4 + j)) = (lnL p.1 p.2.1 p.2.2)[j]?) ∧ LnR w w.heap.size p.1 p.2.1 p.2.2 := fun i hin => by
      obtain ⟨cs', h1, h2⟩ := hi i (by omega)
      obtain ⟨y, Aj, cj, hc, hw⟩ := one_line h2
      obtain ⟨_, _, h3⟩ := World.cells?_some h1
      rw [lineCells] at h3
      refine ⟨(y, Aj, cj), fun j hj => ?_, hw⟩
      have := h3 j hj
      rw [add_of_add, hc] at this
      exact this
    obtain ⟨g, hg⟩ : ∃ g : Nat → Ln × Option Addr × Nat, ∀ i, i < len → (∀ j, j < 4 → w.cell? (a.add (i * 4 + j)) = (lnL (g i).1 (g i).2.1 (g i).2.2)[j]?) ∧ LnR w w.heap.size (g i).1 (g i).2.1 (g i).2.2 :=
      ⟨fun i => if hi : i < len then Classical.choose (hex i hi) else (ln0, none, 0), fun i hin => by dsimp only; rw [dif_pos hin]; exact Classical.choose_spec (hex i hin)⟩
    have hgl : ∀ j, j < len → ((List.range len).map (fun i => (g i).1)).getD j ln0 = (g j).1 := fun j hj => by simp [hj]
    obtain ⟨cs, hcl, hcs4⟩ : ∃ cs : List Value, cs.length = len * 4 ∧ ∀ i j, i < len → j < 4 → cs[i * 4 + j]? = (lnL (g i).1 (g i).2.1 (g i).2.2)[j]? := by
      refine ⟨(List.range (len * 4)).map (fun k => (lnL (g (k / 4)).1 (g (k / 4)).2.1 (g (k / 4)).2.2).getD (k % 4) undef), by simp, fun i j hij hj => ?_⟩
      have h1 : i * 4 + j < len * 4 := by omega
      have e1 : (i * 4 + j) / 4 = i := by omega
      have e2 : (i * 4 + j) % 4 = j := by omega
      have hll : j < (lnL (g i).1 (g i).2.1 (g i).2.2).length := by show j < 4; exact hj
      rw [List.getElem?_map, List.getElem?_range h1, Option.map_some, e1, e2, List.getD_eq_getElem?_getD, List.getElem?_eq_getElem hll]
      rfl
    refine ⟨some a, len, cap, (List.range len).map (fun i => (g i).1), hcs, ⟨by simp, cs, ⟨hcl, fun h0 => ⟨a, rfl, ?_, fun j u hu => ?_⟩⟩, fun j hj => ?_⟩, by omega⟩
    · have h1 := (hg 0 h0).1 0 (by decide)
      have := lt_of_cell _ _ h1
      rwa [block_of_add] at this
    · have hj : j < len * 4 := by rw [← hcl]; exact (List.getElem?_eq_some_iff.1 hu).1
      have hq := hcs4 (j / 4) (j % 4) (by omega) (by omega)
      have h1 := (hg (j / 4) (by omega)).1 (j % 4) (by omega)
      rw [show j / 4 * 4 + j % 4 = j from by omega] at hq h1
      rw [h1, ← hq, hu]
    · rw [hgl j hj]
      have q := fun k hk => hcs4 j k hj hk
      exact ⟨(g j).2.1, (g j).2.2, (q 0 (by decide)).trans rfl, (q 1 (by decide)).trans rfl, (q 2 (by decide)).trans rfl, (q 3 (by decide)).trans rfl, (hg j hj).2⟩
end
end Go.Proofs.Ytopkmcoblndokaa
/- Layer 10: a list of lines is accepted just if it is a refutation; clauses are satisfied or refuted (plain mathematics). -/
namespace Go.Proofs.Ws
open Go
theorem ok_noalw {n : Nat} {c : List Int} (h : ClOk n c) : alwB c = false := by
  rw [Bool.eq_false_iff]
  intro hx
  unfold alwB at hx
  obtain ⟨x, hx, hy⟩ := List.any_eq_true.1 hx
  rw [decide_eq_true_eq] at hy
  obtain ⟨i, hi, rfl⟩ := List.getElem_of_mem hx
  obtain ⟨j, hj, hje⟩ := List.getElem_of_mem hy
  have hp := List.pairwise_iff_getElem.1 h.sorted
  have h0 := (h.lits _ (List.getElem_mem hi)).1
  rcases Nat.lt_trichotomy i j with h1 | h1 | h1
  · have := hp i j hi hj h1; rw [hje, varOf_neg] at this; omega
  · subst h1; omega
  · have := hp j i hj hi h1; rw [hje, varOf_neg] at this; omega
theorem ok_lLt {n : Nat} {c : List Int} (h : ClOk n c) : c.Pairwise lLt :=
  List.Pairwise.imp_of_mem (fun {a b} ha hb hab => by
    have h1 := varI_var (h.lits a ha).1
    have h2 := varI_var (h.lits b hb).1
    unfold lLt; omega) h.sorted
theorem res_mem {a b : List Int} {k : Nat} (x : Int) : (x ∈ a ∧ x ≠ (k : Int) + 1 ∨ x ∈ b ∧ x ≠ -((k : Int) + 1)) ↔ x ∈ restL a b (k : Int) := by
  unfold restL
  rw [List.mem_append, List.mem_filter, List.mem_filter]
  simp
theorem isres_res {n k : Nat} {a b c : List Int} (hn : n ≤ 12) (hk : k < 12) (ha : ClOk n a) (hb : ClOk n b) (h : IsRes n a b ((k : Int) + 1) c) : resE a b (k : Int) = 0 ∧ c = resL a b (k : Int) := by
  have hm : ∀ x, x ∈ c ↔ x ∈ restL a b (k : Int) := fun x => by rw [h.mem, res_mem]
  have hal : alwB (restL a b (k : Int)) = false := by rw [← alw_congr hm]; exact ok_noalw h.ok
  have hE : resE a b (k : Int) = 0 := by
    unfold resE
    rw [if_neg, if_neg, if_neg, if_neg]
    · rw [hal]; decide
    · rintro (h1 | h1)
      · exact h1 h.pa
      · exact h1 h.nb
    · omega
    · rintro (h1 | h1)
      · exact h1 (clE_ok (n := 12).2 (ha.mono hn))
      · exact h1 (clE_ok (n := 12).2 (hb.mono hn))
  refine ⟨hE, ?_⟩
  unfold resL
  rw [if_pos hE]
  exact nrm_unique (rest_lits hn ha hb) (ok_lLt h.ok) hm
theorem nrm_ok {c : List Int} (h : Lits c) (ha : alwB c = false) : ClOk 12 (nrm c) := by
  refine ⟨fun x hx => ?_, ?_⟩
  · have := h x ((nrm_mem h x).1 hx); omega
  · refine List.Pairwise.imp_of_mem ?_ (nrm_sorted c)
    intro x y hx hy hxy
    have hx := (nrm_mem h x).1 hx
    have hy := (nrm_mem h y).1 hy
    have x0 := (h x hx).1
    have y0 := (h y hy).1
    have e1 := varI_var x0
    have e2 := varI_var y0
    unfold lLt at hxy
    rcases hxy with h1 | ⟨h1, h2⟩
    · omega
    · exfalso
      rcases var_eq x0 y0 (by omega) with e | e
      · omega
      · rw [Bool.eq_false_iff] at ha
        refine ha ?_
        unfold alwB
        rw [List.any_eq_true]
        exact ⟨x, hx, decide_eq_true (by rw [show -x = y from by omega]; exact hy)⟩
theorem res_isres {a b c : List Int} {v : Int} (h : resE a b v = 0) (hc : c = resL a b v) : ∃ k : Nat, v = (k : Int) ∧ k < 12 ∧ ClOk 12 a ∧ ClOk 12 b ∧ IsRes 12 a b ((k : Int) + 1) c := by
  have h0 := h
  unfold resE at h
  split at h
  · cases h
  · split at h
    · cases h
    · split at h
      · cases h
      · split at h
        · cases h
        · rename_i h1 h2 h3 h4
          have ha : ClOk 12 a := clE_ok (n := 12).1 (Classical.byContradiction fun e => h1 (.inl e))
          have hb : ClOk 12 b := clE_ok (n := 12).1 (Classical.byContradiction fun e => h1 (.inr e))
          obtain ⟨k, rfl⟩ : ∃ k : Nat, v = (k : Int) := ⟨v.toNat, by omega⟩
          have hl := rest_lits (v := (k : Int)) (Nat.le_refl 12) ha hb
          have hal : alwB (restL a b (k : Int)) = false := by revert h4; cases alwB (restL a b (k : Int)) <;> simp
          have hc2 : c = nrm (restL a b (k : Int)) := by rw [hc]; unfold resL; rw [if_pos h0]
          refine ⟨k, rfl, by omega, ha, hb, Classical.byContradiction fun e => h3 (.inl e), Classical.byContradiction fun e => h3 (.inr e), ?_, fun x => ?_⟩
          · rw [hc2]; exact nrm_ok hl hal
          · rw [hc2, nrm_mem hl, res_mem]
theorem all_range2 {n : Nat} {p : Nat → Bool} : (List.range n).all p = true ↔ ∀ i, i < n → p i = true := by
  rw [List.all_eq_true]
  exact ⟨fun h i hi => h i (List.mem_range.2 hi), fun h i hi => h i (List.mem_range.1 hi)⟩
/-- what Verify accepts is a refutation -/
theorem ver_refut {n : Int} {l : List (List Int)} {s : List Ln} (h : verE n l s = 0) : chkR n l = 0 ∧ Refut 12 l s := by
  unfold verE at h
  split at h
  · rename_i h1; exact absurd h h1
  · split at h
    · cases h
    · split at h
      · cases h
      · split at h
        · cases h
        · rename_i h1 h2 h3 h4
          have h2 : (List.range s.length).all (fun i => formB (s.getD i ln0) (i : Int) (l.length : Int)) = true := by simpa using h2
          have h3 : (List.range s.length).all (fun i => folB l s (s.getD i ln0)) = true := by simpa using h3
          rw [all_range2] at h2 h3
          refine ⟨Classical.byContradiction h1, fun i hi => ?_, fun e => h4 (.inl e), Classical.byContradiction fun e => h4 (.inr e)⟩
          have f := h2 i hi
          have g := h3 i hi
          generalize s.getD i ln0 = x at f g ⊢
          unfold formB at f
          unfold folB at g
          by_cases e : x.left = -1
          · rw [if_pos e, decide_eq_true_eq] at f g
            exact .inl ⟨e, x.right.toNat, by omega, by omega, f.2.2, g⟩
          · rw [if_neg e, decide_eq_true_eq] at f g
            obtain ⟨k, hk, _, _, _, hr⟩ := res_isres g.1 g.2
            exact .inr ⟨x.left.toNat, x.right.toNat, k, by omega, by omega, by omega, by omega, hk, hr⟩
theorem lines_ok {n : Nat} {l : List (List Int)} {s : List Ln} (hl : ∀ c ∈ l, ClOk n c) (h : Lines n l s) (i : Nat) (hi : i < s.length) : ClOk n (s.getD i ln0).cl := by
  rcases h i hi with ⟨_, j, _, hj, _, e⟩ | ⟨_, _, _, _, _, _, _, _, hr⟩
  · rw [e, List.getD_eq_getElem?_getD, List.getElem?_eq_getElem hj]
    exact hl _ (List.getElem_mem hj)
  · exact hr.ok
/-- Verify accepts each refutation -/
theorem refut_ver {n : Nat} {l : List (List Int)} {s : List Ln} (hc : chkR (n : Int) l = 0) (hn : n ≤ 12) (hl : ∀ c ∈ l, ClOk n c) (h : Refut n l s) : verE (n : Int) l s = 0 := by
  obtain ⟨h1, h2, h3⟩ := h
  unfold verE
  have f1 : (List.range s.length).all (fun i => formB (s.getD i ln0) (i : Int) (l.length : Int)) = true := all_range2.2 fun i hi => by
    unfold formB
    rcases h1 i hi with ⟨e, j, e2, hj, e3, _⟩ | ⟨a, b, v, e, e2, ha, hb, e3, _⟩
    · rw [if_pos e]; exact decide_eq_true (by omega)
    · rw [if_neg (by omega)]; exact decide_eq_true (by omega)
  have f2 : (List.range s.length).all (fun i => folB l s (s.getD i ln0)) = true := all_range2.2 fun i hi => by
    unfold folB
    rcases h1 i hi with ⟨e, j, e2, hj, e3, e4⟩ | ⟨a, b, v, e, e2, ha, hb, e3, hr⟩
    · rw [if_pos e, e2, Int.toNat_natCast]; exact decide_eq_true e4
    · rw [if_neg (by omega), e, e2, e3, Int.toNat_natCast, Int.toNat_natCast]
      have hv : v < 12 := by
        have := ((lines_ok hl h1 a (by omega)).lits _ hr.pa).2
        omega
      exact decide_eq_true (isres_res hn hv (lines_ok hl h1 a (by omega)) (lines_ok hl h1 b (by omega)) hr)
  rw [if_neg (by rw [hc]; decide), f1, f2, if_neg (by decide), if_neg (by decide), if_neg]
  rintro (e | e)
  · exact h2 e
  · exact e h3
end Go.Proofs.Ws
namespace Go.Proofs.Ytopkmcoblndokaa
open Go.RowKit Go.Proofs.Ws
theorem reL_len (n : Int) (l : List (List Int)) : (reL n l).length ≤ maxLen := by
  unfold reL
  split
  · rename_i h
    obtain ⟨m, rfl, hm, _⟩ := chkR_ok h
    rw [Int.toNat_natCast]
    have h1 := refS_len (n := m) (l := l) m 0 []
    have h2 : 2 ^ (m + 1) ≤ 2 ^ 13 := Nat.pow_le_pow_right (n := 2) (by decide) (by omega)
    split
    · rw [List.length_nil] at h1; unfold maxLen; omega
    · exact Nat.zero_le _
  · exact Nat.zero_le _
/-- either a valuation, or an accepted refutation -/
theorem decides {n : Int} {l : List (List Int)} (hc : chkR n l = 0) :
    (slvE n l = 0 ∧ holV n l (slvV n l) = true ∧ holE n l (slvV n l) = 0 ∧ reE n l = 15 ∧ reL n l = []) ∨ (slvE n l = 6 ∧ reE n l = 0 ∧ verE n l (reL n l) = 0) := by
  obtain ⟨m, rfl, hm, hln, hl⟩ := chkR_ok hc
  have hr := refute_ok hl
  have e1 : slvE (m : Int) l = match slvO l (2 ^ m) with | some _ => 0 | none => 6 := by unfold slvE; rw [if_pos hc, Int.toNat_natCast]; rfl
  have e2 : slvV (m : Int) l = match slvO l (2 ^ m) with | some v => (v : Int) | none => 0 := by unfold slvV; rw [if_pos hc, Int.toNat_natCast]; rfl
  have e3 : reE (m : Int) l = match (refS m l m 0 []).1 with | some _ => 0 | none => 15 := by unfold reE; rw [if_pos hc, Int.toNat_natCast]; rfl
  have e4 : reL (m : Int) l = match (refS m l m 0 []).1 with | some _ => (refS m l m 0 []).2 | none => [] := by unfold reL; rw [if_pos hc, Int.toNat_natCast]; rfl
  cases hS : slvO l (2 ^ m) with
  | some v =>
    left
    rw [hS] at e1 e2
    have hS2 := hS
    unfold slvO at hS2
    rw [List.find?_range_eq_some] at hS2
    obtain ⟨h1, h2, _⟩ := hS2
    have h2 := List.mem_range.1 h2
    have hsat := satB_iff.1 h1
    cases hR : (refS m l m 0 []).1 with
    | some a => rw [hR] at hr; exact absurd hsat (refut_sound hr)
    | none =>
      rw [hR] at e3 e4
      dsimp only at e1 e2
      refine ⟨e1, ?_, ?_, e3, e4⟩
      · rw [e2]; unfold holV; rw [Int.toNat_natCast, Int.toNat_natCast, h1, decide_eq_true ⟨hc, Int.natCast_nonneg _, Int.ofNat_lt.2 h2⟩]; rfl
      · rw [e2]; unfold holE; rw [if_pos hc, Int.toNat_natCast, if_pos ⟨Int.natCast_nonneg _, Int.ofNat_lt.2 h2⟩]
  | none =>
    right
    rw [hS] at e1
    cases hR : (refS m l m 0 []).1 with
    | none =>
      rw [hR] at hr
      obtain ⟨W, hW, hs⟩ := hr
      unfold slvO at hS
      rw [List.find?_eq_none] at hS
      exact absurd (satB_iff.2 hs) (hS W (List.mem_range.2 hW))
    | some a =>
      rw [hR] at hr e3 e4
      refine ⟨e1, e3, ?_⟩
      rw [e4]
      exact refut_ver hc hm hl hr
end Go.Proofs.Ytopkmcoblndokaa
