/- Layer 6: texts joined: Xb Xc. -/
import Derived.Test.YtenbhalnpiahaaaGreatDoorJa
import Derived.Test.YtenbhalnpiahaaaGreatDoorJr
import Derived.Lib.Strings
import Derived.Lib.Slices
import Derived.Lib.Walk
import Derived.Lib.Builder
import Derived.Lib.AppendStr
import Derived.Lib.UnsafeStr
import Derived.Laws.Externs
import Derived.Laws.IdiomCopy
import Derived.Laws.BitsLemmas
/- Layer 7: the printer in memory; the strings.Builder within it. -/
namespace Go.Proofs.YtenbhalnpiahaaaGreatDoor
open Go.RowKit Go.Proofs.Ws
/-- rows whose element type is neither a byte's nor the printer's stay as they are -/
def Oth (w w' : World) : Prop := ∀ (k : Nat) (cs : Array Value) (t : TypeId), t ≠ 54 → t ≠ 5 → w.heap[k]? = some (Obj.cells cs t (0, 0)) → w'.heap[k]? = some (Obj.cells cs t (0, 0))
theorem Oth.refl (w : World) : Oth w w := fun _ _ _ _ _ h => h
theorem Oth.trans {a b c : World} (h : Oth a b) (k : Oth b c) : Oth a c := fun i cs t h1 h2 hh => k i cs t h1 h2 (h i cs t h1 h2 hh)
theorem heap_lt {w : World} {k : Nat} {o : Obj} (h : w.heap[k]? = some o) : k < w.heap.size := (Array.getElem?_eq_some_iff.1 h).1
theorem Oth.below {a w w' : World} (h : Oth a w) (hb : Below w.heap.size w w') : Oth a w' := h.trans fun k _ _ _ _ hh => (hb.block k (heap_lt hh)).trans hh
theorem Oth.alloc {a w : World} (h : Oth a w) (o : Obj) : Oth a (w.alloc o) := h.below ((Below.refl _ w).alloc (Nat.le_refl _) o)
theorem Oth.setB {a w : World} (h : Oth a w) {b : Nat} {cs : Array Value} (hb : w.heap[b]? = some (.cells cs 54 (0, 0))) (j : Nat) (u : Value) : Oth a (w.setCell ⟨b, j, none⟩ u) :=
  h.trans fun k cs' t h1 _ hh => (Below.heap_setCell w ⟨b, j, none⟩ u k (fun e => by subst e; rw [hb] at hh; injection hh with hh; injection hh with _ ht; exact h1 ht.symm)).trans hh
theorem Oth.grown {a w w' : World} {B n : Nat} {v : Value} {xs : List Value} (h : Oth a w) (hown : w.ownsRow B 5 1 v n xs) (hg : w.grownBy w' v.ownBlock) : Oth a w' :=
  h.trans fun k cs t _ h2 hh => (hg.block k (heap_lt hh) (fun e => by
    rcases hown.2 with ⟨rfl, _⟩ | ⟨g, cap, cur, rfl, _, hgg, _⟩
    · cases e
    · simp only [Value.ownBlock, Option.some.injEq] at e
      subst e
      rw [hgg] at hh
      injection hh with hh
      injection hh with _ ht
      exact h2 ht.symm)).trans hh
theorem own_keepQ {W W' : World} {lo size : Nat} {e : TypeId} {v : Value} {n : Nat} {xs : List Value} (h : W.ownsRow lo e size v n xs) (hk : ∀ g, v.ownBlock = some g → W'.heap[g]? = W.heap[g]?) : W'.ownsRow lo e size v n xs := by
  refine ⟨h.1, ?_⟩
  rcases h.2 with h0 | ⟨g, cap, cur, hv, hb, hg, r⟩
  · exact .inl h0
  · exact .inr ⟨g, cap, cur, hv, hb, (hk g (by rw [hv]; rfl)).trans hg, r⟩
theorem sizeB : (Tryz.prog.info? 52).map (·.size) = some 2 := by kernel_rfl
theorem liesB : liesAt Tryz.prog Tryz.prog.depth 54 (6 / Tryz.prog.cellsOf 54) 4 52 1 = true := by kernel_rfl
theorem Tryz.infoB : (Tryz.prog.info? 5).map (fun i => (i.zero, i.size, i.bytes)) = some (some (.int .u8 0), 1, 1) := by kernel_rfl
theorem cellsB : Tryz.prog.cellsOf 5 = 1 := by kernel_rfl
/-- what stays the same while a formula is printed -/
structure QK where
  w0 : World
  A : List ByteArray
  F : List ByteArray
  X : List ByteArray
  l : List Nd
  a0 : Option Addr
  n0 : Nat
  c0 : Nat
  a1 : Option Addr
  n1 : Nat
  c1 : Nat
  a2 : Option Addr
  n2 : Nat
  c2 : Nat
  al : Option Addr
  cl : Nat
def qcl (K : QK) (p v : Value) : Array Value := #[.slice K.a0 K.n0 K.c0, .slice K.a1 K.n1 K.c1, .slice K.a2 K.n2 K.c2, .slice K.al K.l.length K.cl, p, v]
/-- the printer in memory, with the text so far -/
structure QP (K : QK) (W : World) (t : List UInt8) : Prop where
  be : Below K.w0.heap.size K.w0 W
  out : ∃ p v, W.heap[K.w0.heap.size]? = some (.cells (qcl K p v) 54 (0, 0)) ∧ (p = .pointer none ∨ p = .pointer (some ⟨K.w0.heap.size, 4, none⟩)) ∧
    W.ownsRow (K.w0.heap.size + 1) 5 1 v t.length (Lib.byteCells t)
theorem QP.size {K : QK} {W : World} {t : List UInt8} (h : QP K W t) : K.w0.heap.size < W.heap.size := by
  obtain ⟨p, v, h1, _⟩ := h.out
  exact heap_lt h1
theorem QP.below {K : QK} {W W' : World} {t : List UInt8} (h : QP K W t) (hb : Below W.heap.size W W') : QP K W' t := by
  obtain ⟨p, v, h1, h2, h3⟩ := h.out
  exact ⟨h.be.trans (hb.mono h.be.size), p, v, (hb.block _ (heap_lt h1)).trans h1, h2, own_keepQ h3 (fun g hg => hb.block g (h3.lt g hg).2)⟩
theorem QP.cells {K : QK} {W : World} {t : List UInt8} (h : QP K W t) :
    W.cell? ⟨K.w0.heap.size, 0, none⟩ = some (.slice K.a0 K.n0 K.c0) ∧ W.cell? ⟨K.w0.heap.size, 1, none⟩ = some (.slice K.a1 K.n1 K.c1) ∧ W.cell? ⟨K.w0.heap.size, 2, none⟩ = some (.slice K.a2 K.n2 K.c2) ∧ W.cell? ⟨K.w0.heap.size, 3, none⟩ = some (.slice K.al K.l.length K.cl) := by
  obtain ⟨p, v, h1, _⟩ := h.out
  exact ⟨by rw [Lib.cell_of_heap h1]; rfl, by rw [Lib.cell_of_heap h1]; rfl, by rw [Lib.cell_of_heap h1]; rfl, by rw [Lib.cell_of_heap h1]; rfl⟩
theorem QP.keep {K : QK} {W : World} {t : List UInt8} (h : QP K W t) {a : Addr} {x : Value} (ha : a.block < K.w0.heap.size) (hc : K.w0.cell? a = some x) : W.cell? a = some x := (h.be.cell (p := a) ha).trans hc
theorem set4 (K : QK) (p v q : Value) : (qcl K p v).setIfInBounds 4 q = qcl K q v := by unfold qcl; simp
theorem set5 (K : QK) (p v q : Value) : (qcl K p v).setIfInBounds 5 q = qcl K p q := by unfold qcl; simp
theorem set_heap {w : World} {b j : Nat} {cs : Array Value} {T : TypeId} {fr : Nat × Nat} (h : w.heap[b]? = some (.cells cs T fr)) (u : Value) : (w.setCell ⟨b, j, none⟩ u).heap[b]? = some (.cells (cs.setIfInBounds j u) T fr) := by
  simp [World.setCell, Array.getElem?_modify, h]
theorem own_ne {w : World} {B : Nat} {v : Value} {n : Nat} {xs : List Value} {b : Nat} {cs : Array Value} {fr : Nat × Nat} (hown : w.ownsRow B 5 1 v n xs) (hb : w.heap[b]? = some (.cells cs 54 fr)) : v.ownBlock ≠ some b := Lib.ownBlock_ne hown hb (by decide)
theorem own_set {w : World} {B : Nat} {v : Value} {n : Nat} {xs : List Value} {b : Nat} {cs : Array Value} (hown : w.ownsRow B 5 1 v n xs) (hb : w.heap[b]? = some (.cells cs 54 (0, 0))) (j : Nat) (u : Value) :
    (w.setCell ⟨b, j, none⟩ u).ownsRow B 5 1 v n xs :=
  own_keepQ hown (fun g hg => Below.heap_setCell _ _ _ _ (fun e => own_ne hown hb (by rw [hg]; exact congrArg some e)))
set_option maxHeartbeats 1000000 in
set_option maxRecDepth 100000 in
theorem qcopy_used (b : Nat) (w : World) (h0 : w.cell? ⟨b, 4, none⟩ = some (.pointer (some ⟨b, 4, none⟩))) :
    Calls Tryz.prog 113 #[.pointer (some ⟨b, 4, none⟩)] w fun e w' => e = .returned (.tuple #[]) ∧ w' = w := by
  obtain ⟨j, hj, _⟩ := Option.map_eq_some_iff.1 sizeB
  go_enter Tryz.func113, Tryz.ntmps113
  go_wp2
  rw [Lib.run_neq_ptr_same w _ Tryz.underlying49 hj]
  go_wp2
  go_end0
  exact ⟨rfl, rfl⟩
set_option maxHeartbeats 1000000 in
set_option maxRecDepth 100000 in
theorem qcopy_fresh (b : Nat) (w : World) (h0 : w.cell? ⟨b, 4, none⟩ = some (.pointer none)) (hsh : w.shape? b = some (54, 6)) (hfz : w.frozen? ⟨b, 4, none⟩ = false) :
    Calls Tryz.prog 113 #[.pointer (some ⟨b, 4, none⟩)] w fun e w' => e = .returned (.tuple #[]) ∧ w' = w.setCell ⟨b, 4, none⟩ (.pointer (some ⟨b, 4, none⟩)) := by
  obtain ⟨j, hj, hjs⟩ := Option.map_eq_some_iff.1 sizeB
  go_enter Tryz.func113, Tryz.ntmps113
  go_wp2
  rw [Lib.run_to_unsafe w ⟨b, 4, none⟩ Tryz.underlying49 Tryz.underlying127 hj (by rw [hjs]; decide) hsh (show (4 : Nat) < 6 by decide)]
  simp only [Result.andThen]
  rw [Oper.upon_value]
  go_wp2
  rw [run_callFunc_extern Tryz.func120 (by kernel_rfl) (by kernel_rfl) (by kernel_rfl) (e := Extern.AbiNoEscape.same) (by kernel_rfl)]
  rw [Lib.run_noEscape]
  simp only [Result.andThen]
  rw [Oper.upon_value]
  go_wp2
  rw [Lib.run_from_unsafe w ⟨b, 4, none⟩ Tryz.underlying127 Tryz.underlying49 hj hsh liesB]
  simp only [Result.andThen]
  rw [Oper.upon_value]
  go_wp2
  go_end0
  exact ⟨rfl, rfl⟩
/-- the printer, its Builder written -/
def QU (K : QK) (W : World) (t : List UInt8) : Prop :=
  ∃ v, W.heap[K.w0.heap.size]? = some (.cells (qcl K (.pointer (some ⟨K.w0.heap.size, 4, none⟩)) v) 54 (0, 0)) ∧ W.ownsRow (K.w0.heap.size + 1) 5 1 v t.length (Lib.byteCells t)
theorem qcopy {K : QK} {w : World} {t : List UInt8} (h : QP K w t) :
    Calls Tryz.prog 113 #[.pointer (some ⟨K.w0.heap.size, 4, none⟩)] w fun e w' => e = .returned (.tuple #[]) ∧ QU K w' t ∧ Below K.w0.heap.size w w' ∧ Oth w w' := by
  obtain ⟨p, v, h1, h2, h3⟩ := h.out
  rcases h2 with rfl | rfl
  · refine (qcopy_fresh K.w0.heap.size w (by rw [Lib.cell_of_heap h1]; rfl) (by simp [World.shape?, h1]; rfl) (Lib.frozen_of_heap h1 4)).mono ?_
    rintro e w' ⟨rfl, rfl⟩
    refine ⟨rfl, ⟨v, ?_, own_set h3 h1 4 _⟩, (Below.refl _ w).setCell (p := ⟨K.w0.heap.size, 4, none⟩) (Nat.le_refl _) _, (Oth.refl w).setB h1 4 _⟩
    rw [set_heap h1, set4]
  · refine (qcopy_used K.w0.heap.size w (by rw [Lib.cell_of_heap h1]; rfl)).mono ?_
    rintro e w' ⟨rfl, rfl⟩
    exact ⟨rfl, ⟨v, h1, h3⟩, Below.refl _ _, Oth.refl _⟩
set_option maxHeartbeats 2000000 in
set_option maxRecDepth 100000 in
theorem qWrite_any {K : QK} {w : World} {t : List UInt8} (h : QP K w t) (s : ByteArray) (hlen : t.length + s.size ≤ 140737488355328) :
    Calls Tryz.prog 91 #[.pointer (some ⟨K.w0.heap.size, 4, none⟩), .string s] w fun e w' => e = .returned (.tuple #[.int .i64 s.size, .nilIface]) ∧ QP K w' (t ++ s.data.toList) ∧ Oth w w' := by
  obtain ⟨i0, hi, hz0, hz1, hz2⟩ := info_parts Tryz.infoB
  have hBw := h.size
  have HH := Lib.hid h
  have HK := Lib.hid (qcopy h)
  clear h
  go_enter Tryz.func91, Tryz.ntmps91
  go_wp2_with fail
  refine (HK.out).mono ?_
  rintro e w1 ⟨rfl, ⟨v, hbk, hown⟩, hb1, ho1⟩
  have HB1 := Lib.hid hb1
  have HO1 := Lib.hid ho1
  have hlt : K.w0.heap.size < w1.heap.size := heap_lt hbk
  have HBK := Lib.hid hbk
  have hne := own_ne hown hbk
  have c1 : w1.cell? ⟨K.w0.heap.size, 5, none⟩ = some v := by rw [Lib.cell_of_heap hbk]; rfl
  clear hb1 ho1 HK hbk
  go_wp2_with (at_builtin; refine Lib.wpList_append_own_string _ rfl _ _ 50 9 rfl (K.w0.heap.size + 1) 5 i0 Tryz.underlying50 Tryz.underlying9 hi hz0 hz1 hz2 _ _ _ rfl hown s rfl ?c3 ?c4 ?c5 ?_)
  case c3 => unfold maxLen; omega
  case c4 => omega
  case c5 => omega
  intro v' w2 hown' hgrow _
  have hb2 : w2.heap[K.w0.heap.size]? = some (.cells (qcl K (.pointer (some ⟨K.w0.heap.size, 4, none⟩)) v) 54 (0, 0)) := by
    rw [hgrow.block K.w0.heap.size hlt (fun e => hne e.symm)]
    exact HBK.out
  have d1 : w2.cell? ⟨K.w0.heap.size, 5, none⟩ = some v := by rw [Lib.cell_of_heap hb2]; rfl
  have f1 : w2.frozen? ⟨K.w0.heap.size, 5, none⟩ = false := Lib.frozen_of_heap hb2 5
  have HO2 : Hid (Oth w w2) := Lib.hid (HO1.out.grown hown hgrow)
  have HB2 : Hid (Below K.w0.heap.size w w2) := Lib.hid (HB1.out.grown hgrow (Nat.le_of_lt hlt) (fun k hk => by have := (hown.lt k hk).1; omega))
  have HW2 : Hid (w2.ownsRow (K.w0.heap.size + 1) 5 1 v' (t.length + s.size) (Lib.byteCells t ++ Lib.strCells s)) := Lib.hid hown'
  have HB3 := Lib.hid hb2
  obtain ⟨ao, n', cap, rfl⟩ : ∃ ao n' cap, v' = .slice ao n' cap := by
    rcases hown'.2 with ⟨hv, _⟩ | ⟨g, cap, cur, hv, _⟩
    · exact ⟨_, _, _, hv⟩
    · exact ⟨_, _, _, hv⟩
  clear hown hown' hgrow hb2
  go_wp2
  go_ret2
  refine ⟨rfl, ⟨HH.out.be.trans (HB2.out.setCell (p := ⟨K.w0.heap.size, 5, none⟩) (Nat.le_refl _) _), _, _, by rw [set_heap HB3.out, set5], .inr rfl, ?_⟩, HO2.out.setB HB3.out 5 _⟩
  have e1 : (t ++ s.data.toList).length = t.length + s.size := by rw [List.length_append, Array.length_toList]; rfl
  have e2 : Lib.byteCells (t ++ s.data.toList) = Lib.byteCells t ++ Lib.strCells s := by rw [Lib.byteCells_append, Lib.strCells_eq]
  rw [e1, e2]
  exact own_set HW2.out HB3.out 5 _
set_option maxHeartbeats 1000000 in
set_option maxRecDepth 100000 in
theorem qLen_any {K : QK} {w : World} {t : List UInt8} (h : QP K w t) :
    Calls Tryz.prog 60 #[.pointer (some ⟨K.w0.heap.size, 4, none⟩)] w fun e w' => e = .returned (.int .i64 (t.length : Int)) ∧ w' = w := by
  obtain ⟨p, v, h1, h2, h3⟩ := h.out
  obtain ⟨ao, cap, rfl⟩ : ∃ ao cap, v = .slice ao t.length cap := by
    rcases h3.2 with ⟨hv, h0⟩ | ⟨g, cap, cur, hv, _⟩
    · exact ⟨none, 0, by rw [hv, h0]⟩
    · exact ⟨_, _, hv⟩
  have c1 : w.cell? ⟨K.w0.heap.size, 5, none⟩ = some (.slice ao t.length cap) := by rw [Lib.cell_of_heap h1]; rfl
  clear h h1 h2 h3
  generalize t.length = L at *
  go_enter Tryz.func60, Tryz.ntmps60
  go_wp2
  go_ret
  exact ⟨rfl, rfl⟩
set_option maxHeartbeats 2000000 in
set_option maxRecDepth 100000 in
theorem qString_any {K : QK} {w : World} {l : List UInt8} (h : QP K w l) (h0 : l ≠ []) :
    Calls Tryz.prog 31 #[.pointer (some ⟨K.w0.heap.size, 4, none⟩)] w fun e w' => e = .returned (.string ⟨l.toArray⟩) ∧ Below K.w0.heap.size w w' := by
  obtain ⟨p, v, hbk, _, hown⟩ := h.out
  have hl0 : l.length ≠ 0 := by simpa using h0
  obtain ⟨g, cap, cur, rfl, hbg, hg, hnc, hcm, hcs, htake⟩ : ∃ g cap cur, v = .slice (some ⟨g, 0, none⟩) l.length cap ∧ K.w0.heap.size + 1 ≤ g ∧ w.heap[g]? = some (.cells cur 5 (0, 0)) ∧ l.length ≤ cap ∧ cap ≤ maxLen ∧ cur.size = cap * 1 ∧ cur.toList.take (l.length * 1) = Lib.byteCells l := by
    rcases hown.2 with ⟨_, hz⟩ | ⟨g, cap, cur, hv, r⟩
    · exact absurd hz hl0
    · exact ⟨g, cap, cur, hv, r⟩
  have c1 : w.drew.cell? ⟨K.w0.heap.size, 5, none⟩ = some (.slice (some ⟨g, 0, none⟩) l.length cap) := by
    have : w.drew.heap[K.w0.heap.size]? = some (.cells (qcl K p (.slice (some ⟨g, 0, none⟩) l.length cap)) 54 (0, 0)) := hbk
    rw [Lib.cell_of_heap this]; rfl
  have hSD : (Builtin.unsafeSliceData_ #[50] 84 #[.slice (some ⟨g, 0, none⟩) l.length cap]).run Tryz.prog w.drew = .ok (.pointer (some ⟨g, 0, none⟩)) w.drew :=
    Lib.run_unsafeSliceData_row _ _ _ _ _ _ (by omega)
  have hUS : (Builtin.unsafeString_ #[84, 3] 9 #[.pointer (some ⟨g, 0, none⟩), .int .i64 l.length]).run Tryz.prog w.drew = .ok (.string ⟨l.toArray⟩) (w.drew.freeze ⟨g, 0, none⟩ l.length) := by
    refine Lib.run_unsafeString_row w.drew 84 3 9 5 Tryz.underlying84 cellsB g cur.size (by have hg' : w.drew.heap[g]? = some (.cells cur 5 (0, 0)) := hg; simp [World.shape?, hg']) l h0 (by omega) (by unfold maxLen at hcm; omega) ?_
    intro j x hx
    have := hown.cells (g := g) rfl j (.int .u8 x.toNat) (by simp [Lib.byteCells, hx])
    exact this
  have HBG := Lib.hid hbg
  clear h hbk hown hg htake hcs h0 hl0 hbg
  go_enter Tryz.func31, Tryz.ntmps31
  go_wp2
  go_region
  all_goals (go_wp2; go_ret; exact ⟨rfl, Lib.below_freeze (Below.drew (Below.refl _ w)) (p := ⟨g, 0, none⟩) (by have := HBG.out; show K.w0.heap.size ≤ g; omega) _⟩)
end Go.Proofs.YtenbhalnpiahaaaGreatDoor
/- Layer 7: isFull and write of the printer. -/
namespace Go.Proofs.YtenbhalnpiahaaaGreatDoor
open Go.RowKit Go.Proofs.Ws
set_option maxRecDepth 100000 in
theorem qFull_any {K : QK} {w : World} {t : List UInt8} (h : QP K w t) :
    Calls Tryz.prog 30 #[.pointer (some ⟨K.w0.heap.size, 0, none⟩)] w fun e w' => e = .returned (.bool (decide (4000 < t.length))) ∧ w' = w := by
  have HL := Lib.hid (qLen_any h)
  have hd : decide ((4000 : Int) < (t.length : Int)) = decide (4000 < t.length) := by rw [decide_eq_decide]; omega
  clear h
  go_enter Tryz.func30, Tryz.ntmps30
  go_wp2_with fail
  refine (HL.out).mono ?_
  rintro e w1 ⟨rfl, rfl⟩
  go_wp2
  go_ret
  exact ⟨by first | rfl | rw [hd], rfl⟩
def catB (ps : List ByteArray) : List UInt8 := (ps.map (·.data.toList)).flatten
theorem catB_take {ps : List ByteArray} {k : Nat} (h : k < ps.length) : catB (ps.take (k + 1)) = catB (ps.take k) ++ (ps.getD k ByteArray.empty).data.toList := by
  rw [List.take_add_one, List.getD_eq_getElem?_getD, List.getElem?_eq_getElem h]
  unfold catB
  rw [List.map_append, List.flatten_append]
  congr 1
  exact List.append_nil _
theorem catB_len {ps : List ByteArray} {k : Nat} (h : k < ps.length) : (catB (ps.take k)).length + (ps.getD k ByteArray.empty).size ≤ (catB ps).length := by
  have e : catB ps = catB (ps.take (k + 1)) ++ catB (ps.drop (k + 1)) := by
    unfold catB
    rw [← List.flatten_append, ← List.map_append, List.take_append_drop]
  rw [e, List.length_append, catB_take h, List.length_append, Array.length_toList]
  show _ ≤ _ + (ps.getD k ByteArray.empty).size + _
  omega
set_option maxRecDepth 100000 in
set_option maxHeartbeats 2000000 in
theorem qWrites_any {K : QK} {w : World} {t : List UInt8} (h : QP K w t) (ps : List ByteArray) (g n : Nat) (hg : w.heap[g]? = some (.cells (ss ps).toArray 9 (0, 0))) (hl : ps.length = n) (hn : n ≤ 10) (hlen : t.length + (catB ps).length ≤ 1000000) :
    Calls Tryz.prog 55 #[.pointer (some ⟨K.w0.heap.size, 0, none⟩), .slice (some ⟨g, 0, none⟩) n n] w fun e w' => e = .returned (.tuple #[]) ∧ QP K w' (t ++ catB ps) ∧ Oth w w' := by
  have HQ := Lib.hid h
  have HG := Lib.hid hg
  have HT : Hid (catB (ps.take n) = catB ps) := Lib.hid (by rw [List.take_of_length_le (by omega)])
  clear h hg
  go_enter Tryz.func55, Tryz.ntmps55
  go_wp2
  go_loopw [5, 8] (fun _ i wr => ∃ k : Nat, k ≤ n ∧ i = .int .i64 k ∧ Hid (QP K wr (t ++ catB (ps.take k))) ∧ Hid (Oth w wr)) (fun _ i _ => n - (intOf i).toNat)
  case atStart => exact ⟨0, Nat.zero_le _, rfl, Lib.hid (by simpa [catB] using HQ.out), Lib.hid (Oth.refl _)⟩
  case round =>
    obtain ⟨k, hk, rfl, HP, HO⟩ := hrel
    by_cases hlt : k < n
    · have hk2 : k < ps.length := by omega
      have hgr := HO.out g _ 9 (by decide) (by decide) HG.out
      have hc : wr.cell? ⟨g, k, none⟩ = some (.string (ps.getD k ByteArray.empty)) := by
        rw [Lib.cell_of_heap hgr, List.getD_eq_getElem?_getD, List.getElem?_eq_getElem hk2]
        unfold ss
        simp [hk2]
      have hz := catB_len hk2
      have HS := Lib.hid (catB_take hk2)
      have HW := Lib.hid (qWrite_any HP.out (ps.getD k ByteArray.empty) (by rw [List.length_append]; omega))
      generalize ps.getD k ByteArray.empty = x at *
      clear hgr HP hz hk2
      go_wp2_with fail
      refine (HW.out).mono ?_
      rintro e w1 ⟨rfl, hq, ho⟩
      have HP1 : Hid (QP K w1 (t ++ catB (ps.take (k + 1)))) := Lib.hid (by rw [HS.out, ← List.append_assoc]; exact hq)
      have HO1 : Hid (Oth w w1) := Lib.hid (HO.out.trans ho)
      clear hq ho HW HS hc HO
      go_wp2
      go_roundw
      case rel => exact ⟨k + 1, by omega, by go_num, HP1, HO1⟩
      case measure => simp [intOf]; omega
    · have hkn : n = k := by omega
      subst hkn
      go_wp2
      go_end0
      exact ⟨rfl, by rw [← HT.out]; exact HP.out, HO.out⟩
end Go.Proofs.YtenbhalnpiahaaaGreatDoor
