/- Layer 9: the program's walk to the atoms. -/
import Derived.Test.YtcdmchaehafijaaDoorNIa
namespace Go.Proofs.YtcdmchaehafijaaDoor
open Go.RowKit Go.Proofs.Ws Go.Maps
set_option maxRecDepth 100000
/-- the walk at block bw: the list, what was met (block bd), the atoms so far -/
structure WK (W : World) (base bw bd n : Nat) (A : Option Addr) (c : Nat) (met : List Bool) (ats : List Nat) : Prop where
  lw : bw < base
  ld : bd < base
  ne : bw ≠ bd
  lb : base ≤ W.heap.size
  li : W.cell? ⟨bw, 0, none⟩ = some (.slice A n c)
  me : W.cell? ⟨bw, 1, none⟩ = some (.slice (some ⟨bd, 0, none⟩) n n)
  out : ∃ A2 c2, W.cell? ⟨bw, 2, none⟩ = some (.slice A2 ats.length c2) ∧ W.ownsRow base 3 1 (.slice A2 ats.length c2) ats.length (iv ats)
  fout : W.frozen? ⟨bw, 2, none⟩ = false
  len : met.length = n
  cells : ∀ j, j < n → W.cell? ⟨bd, j, none⟩ = some (.bool (met.getD j false))
  free : ∀ j, j < n → W.frozen? ⟨bd, j, none⟩ = false
def rowA (W : World) (bw : Nat) : Option Nat := match W.cell? ⟨bw, 2, none⟩ with | some v => v.ownBlock | none => none
theorem rowA_of {W : World} {bw : Nat} {v : Value} (h : W.cell? ⟨bw, 2, none⟩ = some v) : rowA W bw = v.ownBlock := by unfold rowA; rw [h]
theorem rowA_same {w w' : World} {bw : Nat} (h : w'.cell? ⟨bw, 2, none⟩ = w.cell? ⟨bw, 2, none⟩) : rowA w' bw = rowA w bw := by unfold rowA; rw [h]
structure FrA (bw bd : Nat) (w w' : World) : Prop where
  os : w'.os = w.os
  tape : w'.tape = w.tape
  output : w'.output = w.output
  size : w.heap.size ≤ w'.heap.size
  block : ∀ g, g < w.heap.size → g ≠ bw → g ≠ bd → some g ≠ rowA w bw → w'.heap[g]? = w.heap[g]?
  row : rowA w' bw = rowA w bw ∨ ∃ g, rowA w' bw = some g ∧ w.heap.size ≤ g
theorem FrA.refl (bw bd : Nat) (w : World) : FrA bw bd w w := ⟨rfl, rfl, rfl, Nat.le_refl _, fun _ _ _ _ _ => rfl, .inl rfl⟩
theorem FrA.of_below {w w' : World} {bw bd : Nat} (h : Below w.heap.size w w') (hb : bw < w.heap.size) : FrA bw bd w w' :=
  ⟨h.os, h.tape, h.output, h.size, fun g hg _ _ _ => h.block g hg, .inl (rowA_same (h.cell (p := ⟨bw, 2, none⟩) hb))⟩
theorem FrA.trans {a b c : World} {bw bd : Nat} (h : FrA bw bd a b) (k : FrA bw bd b c) : FrA bw bd a c := by
  refine ⟨k.os.trans h.os, k.tape.trans h.tape, k.output.trans h.output, Nat.le_trans h.size k.size, fun g hg h1 h2 h3 => ?_, ?_⟩
  · refine (k.block g (Nat.lt_of_lt_of_le hg h.size) h1 h2 ?_).trans (h.block g hg h1 h2 h3)
    rcases h.row with e | ⟨g2, e, hl⟩
    · rw [e]; exact h3
    · rw [e]; intro e2; injection e2; omega
  · rcases k.row with e | ⟨g2, e, hl⟩
    · rw [e]; exact h.row
    · exact .inr ⟨g2, e, Nat.le_trans h.size hl⟩
theorem FrA.low {bw bd : Nat} {w w' : World} (h : FrA bw bd w w') {B : Nat} (h0 : B ≤ w.heap.size) (h1 : B ≤ bw) (h2 : B ≤ bd) (h3 : ∀ g, rowA w bw = some g → B ≤ g) : Below B w w' :=
  ⟨h.os, h.tape, h.output, h.size, fun g hg => h.block g (by omega) (by omega) (by omega) (fun e => by have := h3 g e.symm; omega)⟩
theorem FrA.setD {bw bd : Nat} {w W : World} (h : FrA bw bd w W) {j : Nat} (v : Value) (hne : bw ≠ bd) : FrA bw bd w (W.setCell ⟨bd, j, none⟩ v) := by
  refine ⟨h.os, h.tape, h.output, by simpa using h.size, fun k hk a b c => (Below.heap_setCell _ _ _ _ b).trans (h.block k hk a b c), ?_⟩
  have e : rowA (W.setCell ⟨bd, j, none⟩ v) bw = rowA W bw := rowA_same (World.cell?_of_block (a := ⟨bw, 2, none⟩) (Below.heap_setCell _ _ _ _ hne))
  rw [e]; exact h.row
theorem FrA.alloc {bw bd : Nat} {w W : World} (h : FrA bw bd w W) (hb : bw < w.heap.size) (o : Obj) : FrA bw bd w (W.alloc o) :=
  h.trans (FrA.of_below ((Below.refl _ W).alloc (Nat.le_refl _) o) (Nat.lt_of_lt_of_le hb h.size))
section
variable {W W' : World} {base bw bd n c : Nat} {A : Option Addr} {met : List Bool} {ats : List Nat}
theorem WK.row (h : WK W base bw bd n A c met ats) : ∀ g, rowA W bw = some g → base ≤ g ∧ g < W.heap.size := by
  obtain ⟨A2, c2, h1, h2⟩ := h.out
  intro g hg
  rw [rowA_of h1] at hg
  exact h2.lt g hg
theorem WK.below (h : WK W base bw bd n A c met ats) (hb : Below W.heap.size W W') : WK W' base bw bd n A c met ats := by
  have lw := h.lw
  have ld := h.ld
  have lb := h.lb
  obtain ⟨A2, c2, h1, h2⟩ := h.out
  exact ⟨lw, ld, h.ne, Nat.le_trans lb hb.size, (hb.cell (p := ⟨bw, 0, none⟩) (by show bw < _; omega)).trans h.li, (hb.cell (p := ⟨bw, 1, none⟩) (by show bw < _; omega)).trans h.me,
    ⟨A2, c2, (hb.cell (p := ⟨bw, 2, none⟩) (by show bw < _; omega)).trans h1, own_keep1 h2 (fun g hg => hb.block g (h2.lt g hg).2)⟩,
    (hb.frozen (p := ⟨bw, 2, none⟩) (by show bw < _; omega)).trans h.fout, h.len,
    fun j hj => (hb.cell (p := ⟨bd, j, none⟩) (by show bd < _; omega)).trans (h.cells j hj), fun j hj => (hb.frozen (p := ⟨bd, j, none⟩) (by show bd < _; omega)).trans (h.free j hj)⟩
theorem getB_set8 {u : List Bool} {i j : Nat} (h : i < u.length) : (u.set i true).getD j false = if i = j then true else u.getD j false := getB_set h
theorem WK.set (h : WK W base bw bd n A c met ats) {i : Nat} (hi : i < n) : WK (W.setCell ⟨bd, i, none⟩ (.bool true)) base bw bd n A c (met.set i true) ats := by
  obtain ⟨A2, c2, h1, h2⟩ := h.out
  have hw : (W.setCell ⟨bd, i, none⟩ (.bool true)).heap[bw]? = W.heap[bw]? := Below.heap_setCell _ _ _ _ h.ne
  refine ⟨h.lw, h.ld, h.ne, by simpa using h.lb, (World.cell?_of_block (a := ⟨bw, 0, none⟩) hw).trans h.li, (World.cell?_of_block (a := ⟨bw, 1, none⟩) hw).trans h.me,
    ⟨A2, c2, (World.cell?_of_block (a := ⟨bw, 2, none⟩) hw).trans h1, ownsRow_setCell_below h2 h.ld _⟩,
    (World.frozen?_of_block (a := ⟨bw, 2, none⟩) hw).trans h.fout, by rw [List.length_set, h.len], fun j hj => ?_, fun j hj => by rw [World.frozen?_setCell]; exact h.free j hj⟩
  rw [getB_set8 (by rw [h.len]; exact hi)]
  by_cases e : i = j
  · subst e
    rw [if_pos rfl]
    exact World.cell?_setCell_same W _ _ (h.cells i hi)
  · rw [if_neg e, World.cell?_setCell_other W ⟨bd, i, none⟩ ⟨bd, j, none⟩ _ (fun e2 => by have h9 := congrArg Addr.off e2; dsimp only at h9; omega)]
    exact h.cells j hj
/-- the atoms grow -/
theorem WK.app {w1 : World} {gv cv : Nat} {ob : Obj} {i : Nat} {A2 : Option Addr} {c2 : Nat} (h : WK W base bw bd n A c met ats) (h1 : W.cell? ⟨bw, 2, none⟩ = some (.slice A2 ats.length c2)) (h2 : W.ownsRow base 3 1 (.slice A2 ats.length c2) ats.length (iv ats))
    (ho : w1.ownsRow base 3 1 (.slice (some ⟨gv, 0, none⟩) (ats.length + 1) cv) (ats.length + 1) (iv (ats ++ [i]))) (hg : (W.alloc ob).grownBy w1 (Value.slice A2 ats.length c2).ownBlock) (hnew : (Value.slice A2 ats.length c2).ownBlock = some gv ∨ W.heap.size ≤ gv) :
    WK (w1.setCell ⟨bw, 2, none⟩ (.slice (some ⟨gv, 0, none⟩) (ats.length + 1) cv)) base bw bd n A c met (ats ++ [i]) ∧ FrA bw bd W (w1.setCell ⟨bw, 2, none⟩ (.slice (some ⟨gv, 0, none⟩) (ats.length + 1) cv)) := by
  have lw := h.lw
  have ld := h.ld
  have lb := h.lb
  have hrow : ∀ g, g < base → some g ≠ (Value.slice A2 ats.length c2).ownBlock := fun g hg2 e => by have := (h2.lt g e.symm).1; omega
  have ha : (W.alloc ob).heap.size = W.heap.size + 1 := by simp
  have hlow : ∀ g, g < base → w1.heap[g]? = W.heap[g]? := fun g hg2 => (hg.block g (by omega) (hrow g hg2)).trans (Below.heap_alloc W ob g (by omega))
  have hlow2 : ∀ g, g < base → g ≠ bw → (w1.setCell ⟨bw, 2, none⟩ (.slice (some ⟨gv, 0, none⟩) (ats.length + 1) cv)).heap[g]? = W.heap[g]? := fun g hg2 hne => (Below.heap_setCell w1 _ _ g hne).trans (hlow g hg2)
  have hc1 : ∀ j, j ≠ 2 → (w1.setCell ⟨bw, 2, none⟩ (.slice (some ⟨gv, 0, none⟩) (ats.length + 1) cv)).cell? ⟨bw, j, none⟩ = W.cell? ⟨bw, j, none⟩ := fun j hj => by
    rw [World.cell?_setCell_other w1 ⟨bw, 2, none⟩ ⟨bw, j, none⟩ _ (by intro e; injection e with e1 e2; omega)]
    exact World.cell?_of_block (a := ⟨bw, j, none⟩) (hlow bw lw)
  have k0 : w1.cell? ⟨bw, 2, none⟩ = some (.slice A2 ats.length c2) := (World.cell?_of_block (a := ⟨bw, 2, none⟩) (hlow bw lw)).trans h1
  have k1 : (w1.setCell ⟨bw, 2, none⟩ (.slice (some ⟨gv, 0, none⟩) (ats.length + 1) cv)).cell? ⟨bw, 2, none⟩ = some (.slice (some ⟨gv, 0, none⟩) (ats.length + 1) cv) := World.cell?_setCell_same w1 _ _ k0
  have hsz : W.heap.size ≤ (w1.setCell ⟨bw, 2, none⟩ (.slice (some ⟨gv, 0, none⟩) (ats.length + 1) cv)).heap.size := by have := hg.size; simp at this; simp; omega
  have hl : (ats ++ [i]).length = ats.length + 1 := by simp
  refine ⟨⟨lw, ld, h.ne, Nat.le_trans lb hsz, (hc1 0 (by decide)).trans h.li, (hc1 1 (by decide)).trans h.me, ⟨some ⟨gv, 0, none⟩, cv, by rw [hl]; exact k1, by rw [hl]; exact ownsRow_setCell_below ho lw _⟩, ?_, h.len,
    fun j hj => (World.cell?_of_block (a := ⟨bd, j, none⟩) (hlow2 bd ld h.ne.symm)).trans (h.cells j hj), fun j hj => (World.frozen?_of_block (a := ⟨bd, j, none⟩) (hlow2 bd ld h.ne.symm)).trans (h.free j hj)⟩, ?_⟩
  · rw [World.frozen?_setCell]
    exact (World.frozen?_of_block (a := ⟨bw, 2, none⟩) (hlow bw lw)).trans h.fout
  · have ho2 := ho.lt
    refine ⟨hg.os, hg.tape, hg.output, hsz, fun g hg1 h5 _ h6 => ?_, ?_⟩
    · rw [rowA_of h1] at h6
      exact (Below.heap_setCell w1 _ _ g h5).trans ((hg.block g (by omega) h6).trans (Below.heap_alloc W ob g hg1))
    · rw [rowA_of h1, rowA_of k1]
      rcases hnew with e | e
      · exact .inl (by rw [e]; rfl)
      · exact .inr ⟨gv, rfl, e⟩
end
theorem atomsL_le (q : List Nd) (l : List Nat) : (atomsL q l).length ≤ l.length := List.length_filter_le _ _
theorem nodup_le : ∀ (n : Nat) (l : List Nat), l.Nodup → (∀ x ∈ l, x < n) → l.length ≤ n := fun n l h1 h2 => by
  have := (List.Nodup.length_le_of_subset h1 (fun x hx => List.mem_range.2 (h2 x hx)) : l.length ≤ (List.range n).length)
  rwa [List.length_range] at this
theorem order_le {n : Nat} {s : TS} (h : MetOk n s) : s.order.length ≤ n := nodup_le n _ h.nodup (fun x hx => by
  have h1 := (h.mem x).1 hx
  rcases Nat.lt_or_ge x n with h2 | h2
  · exact h2
  · rw [List.getD_eq_getElem?_getD, List.getElem?_eq_none (by rw [h.len]; exact h2)] at h1; cases h1)
theorem mark_row {W : World} {base bw bd n c i : Nat} {A : Option Addr} {met : List Bool} {ats : List Nat} (h : WK W base bw bd n A c met ats) (hi : i < n) (o : Obj) :
    WK ((W.setCell ⟨bd, i, none⟩ (.bool true)).alloc o) base bw bd n A c (met.set i true) ats ∧ FrA bw bd W ((W.setCell ⟨bd, i, none⟩ (.bool true)).alloc o) ∧ some W.heap.size ≠ rowA ((W.setCell ⟨bd, i, none⟩ (.bool true)).alloc o) bw := by
  have h1 := h.set hi
  have hlw : bw < W.heap.size := Nat.lt_of_lt_of_le h.lw h.lb
  have h2 := h1.below ((Below.refl _ (W.setCell ⟨bd, i, none⟩ (.bool true))).alloc (Nat.le_refl _) o)
  have h3 := ((FrA.refl bw bd W).setD (j := i) (.bool true) h.ne).alloc hlw o
  refine ⟨h2, h3, fun e => ?_⟩
  rcases h3.row with e2 | ⟨g, e2, hl⟩
  · rw [e2] at e
    have := (h.row _ e.symm).2
    omega
  · have h4 := rowA_same (w := W.setCell ⟨bd, i, none⟩ (.bool true)) (w' := (W.setCell ⟨bd, i, none⟩ (.bool true)).alloc o) (bw := bw) (World.cell?_alloc_lt _ o ⟨bw, 2, none⟩ (by simpa using hlw))
    have h5 := rowA_same (w := W) (w' := W.setCell ⟨bd, i, none⟩ (.bool true)) (bw := bw) (World.cell?_of_block (a := ⟨bw, 2, none⟩) (Below.heap_setCell _ _ _ _ h.ne))
    rw [h4, h5] at e
    have := (h.row _ e.symm).2
    omega
set_option maxHeartbeats 16000000 in
theorem meet_any (q : List Nd) (hq : opsL q) (hkn0 : knownL q) (n : Nat) (hl : q.length = n) (hn : n ≤ 200) (A : Option Addr) (c B base bw bd : Nat) (hB : B ≤ bw ∧ B ≤ bd ∧ B ≤ base) : ∀ (fuel i : Nat) (s : TS) (w : World), i < fuel → i < n → MetOk n s → WK w base bw bd n A c s.met (atomsL q s.order) → Reads w B 6 A n (nds q) →
    Calls Tryd.prog 66 #[.pointer (some ⟨bw, 0, none⟩), .int .i64 (i : Int)] w fun e w' => e = .returned (.tuple #[]) ∧ Hid (WK w' base bw bd n A c (meetF q fuel i s).met (atomsL q (meetF q fuel i s).order)) ∧ Hid (FrA bw bd w w')
  | 0, i, _, _, h, _, _, _, _ => absurd h (by omega)
  | fuel + 1, i, s, w, hf, hi, hs, hw, hR => by
    have HIH := Lib.hid (meet_any q hq hkn0 n hl hn A c B base bw bd hB fuel)
    have HW := Lib.hid hw
    have HR := Lib.hid hR
    have HMO := Lib.hid hs
    have k0 := hw.li
    have k1 := hw.me
    have kc := hw.cells i hi
    have kf := hw.free i hi
    have HME : Hid (meetF q (fuel + 1) i s = if s.met.getD i false = true then s else (kids (q.getD i nd0)).foldl (fun t k => meetF q fuel k t) (s.mark i)) := Lib.hid rfl
    have hlw := hw.lw
    have hlb := hw.lb
    have hne := hw.ne
    clear hw hR hs
    by_cases hm : s.met.getD i false = true
    · have HM2 : Hid (meetF q (fuel + 1) i s = s) := Lib.hid (by rw [HME.out, if_pos hm])
      rw [hm] at kc
      clear HME hm HIH
      go_enter Tryd.func66, Tryd.ntmps66
      go_wp2
      first | go_end0 | (refine bodyPost_ret (results_none rfl _ _ _) rfl ?_)
      rw [HM2.out]
      exact ⟨rfl, HW, Lib.hid (FrA.refl _ _ _)⟩
    · have hmf : s.met.getD i false = false := by simpa using hm
      have HM2 : Hid (meetF q (fuel + 1) i s = (kids (q.getD i nd0)).foldl (fun t k => meetF q fuel k t) (s.mark i)) := Lib.hid (by rw [HME.out, if_neg hm])
      have HMK : Hid (MetOk n (s.mark i)) := Lib.hid (HMO.out.mark hi hmf)
      have HLE : Hid ((atomsL q s.order).length ≤ 200) := Lib.hid (Nat.le_trans (atomsL_le _ _) (Nat.le_trans (order_le HMO.out) hn))
      rw [hmf] at kc
      have hop := hq i (by omega)
      have hkn := hkn0 i (by omega)
      have HAT := Lib.hid (atomsL_snoc q s.order i)
      obtain ⟨aq, rfl, hbq, m0, m1, m2, m3, m4, m5⟩ := HR.out.nd_at hi
      have hbd0 : aq.block ≠ bd := by omega
      have hbd : ∀ k, (aq.add k).block ≠ bd := fun k => by
        have : (aq.add k).block = aq.block := by unfold Addr.add; split <;> rfl
        omega
      have hst : ∀ (p : Addr) (u : Value), p.block ≠ bd → w.cell? p = some u → (w.setCell ⟨bd, i, none⟩ (.bool true)).cell? p = some u := fun p u h1 h2 => (World.cell?_setCell_other w ⟨bd, i, none⟩ p _ (fun e => h1 (by rw [← e]))).trans h2
      replace m0 := hst _ _ (hbd _) m0
      replace m1 := hst _ _ (hbd _) m1
      replace m2 := hst _ _ (hbd _) m2
      replace m3 := hst _ _ (hbd _) m3
      replace m4 := hst _ _ (hbd _) m4
      replace m5 := hst _ _ (hbd _) m5
      have l1 := add_cell m1
      have l2 := add_cell m2
      have l3 := add_cell m3
      have l4 := add_cell m4
      have l5 := add_cell m5
      clear hbd hbd0 hst
      clear HME hm hmf
      generalize q.getD i nd0 = y at *
      obtain ⟨op, ii, e, gg, x, yy⟩ := y
      dsimp only at m0 m1 m2 m3 m4 m5 l1 l2 l3 l4 l5 hop hkn HAT
      unfold kids at HM2
      dsimp only at HM2
      by_cases h1 : op = 1
      · subst h1
        as_aux_lemma =>
          have HMR := Lib.hid (mark_row HW.out hi (.cells #[.int .i64 1, .int .i64 ii, .int .i64 e, .int .i64 gg, .int .i64 x, .int .i64 yy] 53))
          have hbx0 := Box.made (w.setCell ⟨bd, i, none⟩ (.bool true)) ⟨1, ii, e, gg, x, yy⟩ 53
          rw [show (w.setCell ⟨bd, i, none⟩ (.bool true)).heap.size = w.heap.size from by simp] at hbx0
          have HBX := Lib.hid hbx0
          clear hbx0
          go_enter Tryd.func66, Tryd.ntmps66
          go_wp2
          first | go_end0 | (refine bodyPost_ret (results_none rfl _ _ _) rfl ?_)
          rw [HM2.out]
          refine ⟨rfl, Lib.hid ?_, Lib.hid HMR.out.2.1⟩
          show WK _ _ _ _ _ _ _ (s.met.set i true) (atomsL q (s.order ++ [i]))
          rw [HAT.out]
          exact HMR.out.1
      by_cases h2 : op = 2
      · subst h2
        as_aux_lemma =>
          have HMR := Lib.hid (mark_row HW.out hi (.cells #[.int .i64 2, .int .i64 ii, .int .i64 e, .int .i64 gg, .int .i64 x, .int .i64 yy] 53))
          have hbx0 := Box.made (w.setCell ⟨bd, i, none⟩ (.bool true)) ⟨2, ii, e, gg, x, yy⟩ 53
          rw [show (w.setCell ⟨bd, i, none⟩ (.bool true)).heap.size = w.heap.size from by simp] at hbx0
          have HBX := Lib.hid hbx0
          clear hbx0
          go_enter Tryd.func66, Tryd.ntmps66
          go_wp2
          first | go_end0 | (refine bodyPost_ret (results_none rfl _ _ _) rfl ?_)
          rw [HM2.out]
          refine ⟨rfl, Lib.hid ?_, Lib.hid HMR.out.2.1⟩
          show WK _ _ _ _ _ _ _ (s.met.set i true) (atomsL q (s.order ++ [i]))
          rw [HAT.out]
          exact HMR.out.1
      by_cases h4 : op = 4
      · subst h4
        as_aux_lemma =>
          obtain ⟨kx, hkx⟩ : ∃ k : Nat, x = (k : Int) := ⟨x.toNat, by have := (opsOk_x hop rfl).1; dsimp only at this; omega⟩
          subst hkx
          have hltx : kx < i := by have := (opsOk_x hop rfl).2; dsimp only at this; omega
          have HMR := Lib.hid (mark_row HW.out hi (.cells #[.int .i64 4, .int .i64 ii, .int .i64 e, .int .i64 gg, .int .i64 (kx : Int), .int .i64 yy] 53))
          have hbx0 := Box.made (w.setCell ⟨bd, i, none⟩ (.bool true)) ⟨4, ii, e, gg, (kx : Int), yy⟩ 53
          rw [show (w.setCell ⟨bd, i, none⟩ (.bool true)).heap.size = w.heap.size from by simp] at hbx0
          have HBX := Lib.hid hbx0
          clear hbx0
          have HAM : Hid (atomsL q (s.mark i).order = atomsL q s.order) := Lib.hid (by
            show atomsL q (s.order ++ [i]) = _
            rw [HAT.out]
            rfl)
          have HW1 : Hid (WK _ base bw bd n (some aq) c (s.mark i).met (atomsL q (s.mark i).order)) := Lib.hid (by rw [HAM.out]; exact HMR.out.1)
          have HRW : Hid (∀ W : World, FrA bw bd w W → Reads W B 6 (some aq) n (nds q)) := Lib.hid (fun W h => HR.out.below (h.low (by omega) hB.1 hB.2.1 (fun g hg => by have := (HW.out.row g hg).1; omega)))
          go_enter Tryd.func66, Tryd.ntmps66
          go_wp2_with fail
          refine (HIH.out kx (s.mark i) _ (by omega) (by omega) HMK.out HW1.out (HRW.out _ HMR.out.2.1)).mono ?_
          rintro r w2 ⟨rfl, hk, hfr⟩
          go_wp2
          first | go_end0 | (refine bodyPost_ret (results_none rfl _ _ _) rfl ?_)
          rw [HM2.out]
          exact ⟨rfl, hk, Lib.hid (HMR.out.2.1.trans hfr.out)⟩
      by_cases h5 : op = 5
      · subst h5
        as_aux_lemma =>
          obtain ⟨kx, hkx⟩ : ∃ k : Nat, x = (k : Int) := ⟨x.toNat, by have := (opsOk_x hop rfl).1; dsimp only at this; omega⟩
          subst hkx
          have hltx : kx < i := by have := (opsOk_x hop rfl).2; dsimp only at this; omega
          obtain ⟨ky, hky⟩ : ∃ k : Nat, yy = (k : Int) := ⟨yy.toNat, by have := (opsOk_y hop rfl).1; dsimp only at this; omega⟩
          subst hky
          have hlty : ky < i := by have := (opsOk_y hop rfl).2; dsimp only at this; omega
          have HMR := Lib.hid (mark_row HW.out hi (.cells #[.int .i64 5, .int .i64 ii, .int .i64 e, .int .i64 gg, .int .i64 (kx : Int), .int .i64 (ky : Int)] 53))
          have hbx0 := Box.made (w.setCell ⟨bd, i, none⟩ (.bool true)) ⟨5, ii, e, gg, (kx : Int), (ky : Int)⟩ 53
          rw [show (w.setCell ⟨bd, i, none⟩ (.bool true)).heap.size = w.heap.size from by simp] at hbx0
          have HBX := Lib.hid hbx0
          clear hbx0
          have HAM : Hid (atomsL q (s.mark i).order = atomsL q s.order) := Lib.hid (by
            show atomsL q (s.order ++ [i]) = _
            rw [HAT.out]
            rfl)
          have HW1 : Hid (WK _ base bw bd n (some aq) c (s.mark i).met (atomsL q (s.mark i).order)) := Lib.hid (by rw [HAM.out]; exact HMR.out.1)
          have HRW : Hid (∀ W : World, FrA bw bd w W → Reads W B 6 (some aq) n (nds q)) := Lib.hid (fun W h => HR.out.below (h.low (by omega) hB.1 hB.2.1 (fun g hg => by have := (HW.out.row g hg).1; omega)))
          go_enter Tryd.func66, Tryd.ntmps66
          go_wp2_with fail
          refine (HIH.out kx (s.mark i) _ (by omega) (by omega) HMK.out HW1.out (HRW.out _ HMR.out.2.1)).mono ?_
          rintro r w2 ⟨rfl, hk, hfr⟩
          have hbx := HBX.out.keep (W' := w2) (hfr.out.block w.heap.size (by simp) (by omega) (by have := HW.out.ld; omega) HMR.out.2.2)
          have HBX2 := Lib.hid hbx
          have HF2 := Lib.hid (HMR.out.2.1.trans hfr.out)
          have HMK2 : Hid (MetOk n (meetF q fuel kx (s.mark i))) := Lib.hid (by have := meet_ok hq fuel kx (by omega) (by omega) (s.mark i) (by rw [hl]; exact HMK.out); rw [hl] at this; exact this)
          clear hbx hfr
          obtain ⟨b0, b1, b2, b3, b4, b5, _⟩ := HBX2.out
          go_wp2_with fail
          refine (HIH.out ky (meetF q fuel kx (s.mark i)) w2 (by omega) (by omega) HMK2.out hk.out (HRW.out _ HF2.out)).mono ?_
          rintro r w3 ⟨rfl, hk3, hfr3⟩
          clear b0 b1 b2 b3 b4 b5
          go_wp2
          first | go_end0 | (refine bodyPost_ret (results_none rfl _ _ _) rfl ?_)
          rw [HM2.out]
          exact ⟨rfl, hk3, Lib.hid (HF2.out.trans hfr3.out)⟩
      by_cases h6 : op = 6
      · subst h6
        as_aux_lemma =>
          obtain ⟨kx, hkx⟩ : ∃ k : Nat, x = (k : Int) := ⟨x.toNat, by have := (opsOk_x hop rfl).1; dsimp only at this; omega⟩
          subst hkx
          have hltx : kx < i := by have := (opsOk_x hop rfl).2; dsimp only at this; omega
          obtain ⟨ky, hky⟩ : ∃ k : Nat, yy = (k : Int) := ⟨yy.toNat, by have := (opsOk_y hop rfl).1; dsimp only at this; omega⟩
          subst hky
          have hlty : ky < i := by have := (opsOk_y hop rfl).2; dsimp only at this; omega
          have HMR := Lib.hid (mark_row HW.out hi (.cells #[.int .i64 6, .int .i64 ii, .int .i64 e, .int .i64 gg, .int .i64 (kx : Int), .int .i64 (ky : Int)] 53))
          have hbx0 := Box.made (w.setCell ⟨bd, i, none⟩ (.bool true)) ⟨6, ii, e, gg, (kx : Int), (ky : Int)⟩ 53
          rw [show (w.setCell ⟨bd, i, none⟩ (.bool true)).heap.size = w.heap.size from by simp] at hbx0
          have HBX := Lib.hid hbx0
          clear hbx0
          have HAM : Hid (atomsL q (s.mark i).order = atomsL q s.order) := Lib.hid (by
            show atomsL q (s.order ++ [i]) = _
            rw [HAT.out]
            rfl)
          have HW1 : Hid (WK _ base bw bd n (some aq) c (s.mark i).met (atomsL q (s.mark i).order)) := Lib.hid (by rw [HAM.out]; exact HMR.out.1)
          have HRW : Hid (∀ W : World, FrA bw bd w W → Reads W B 6 (some aq) n (nds q)) := Lib.hid (fun W h => HR.out.below (h.low (by omega) hB.1 hB.2.1 (fun g hg => by have := (HW.out.row g hg).1; omega)))
          go_enter Tryd.func66, Tryd.ntmps66
          go_wp2_with fail
          refine (HIH.out kx (s.mark i) _ (by omega) (by omega) HMK.out HW1.out (HRW.out _ HMR.out.2.1)).mono ?_
          rintro r w2 ⟨rfl, hk, hfr⟩
          have hbx := HBX.out.keep (W' := w2) (hfr.out.block w.heap.size (by simp) (by omega) (by have := HW.out.ld; omega) HMR.out.2.2)
          have HBX2 := Lib.hid hbx
          have HF2 := Lib.hid (HMR.out.2.1.trans hfr.out)
          have HMK2 : Hid (MetOk n (meetF q fuel kx (s.mark i))) := Lib.hid (by have := meet_ok hq fuel kx (by omega) (by omega) (s.mark i) (by rw [hl]; exact HMK.out); rw [hl] at this; exact this)
          clear hbx hfr
          obtain ⟨b0, b1, b2, b3, b4, b5, _⟩ := HBX2.out
          go_wp2_with fail
          refine (HIH.out ky (meetF q fuel kx (s.mark i)) w2 (by omega) (by omega) HMK2.out hk.out (HRW.out _ HF2.out)).mono ?_
          rintro r w3 ⟨rfl, hk3, hfr3⟩
          clear b0 b1 b2 b3 b4 b5
          go_wp2
          first | go_end0 | (refine bodyPost_ret (results_none rfl _ _ _) rfl ?_)
          rw [HM2.out]
          exact ⟨rfl, hk3, Lib.hid (HF2.out.trans hfr3.out)⟩
      by_cases h7 : op = 7
      · subst h7
        as_aux_lemma =>
          obtain ⟨kx, hkx⟩ : ∃ k : Nat, x = (k : Int) := ⟨x.toNat, by have := (opsOk_x hop rfl).1; dsimp only at this; omega⟩
          subst hkx
          have hltx : kx < i := by have := (opsOk_x hop rfl).2; dsimp only at this; omega
          obtain ⟨ky, hky⟩ : ∃ k : Nat, yy = (k : Int) := ⟨yy.toNat, by have := (opsOk_y hop rfl).1; dsimp only at this; omega⟩
          subst hky
          have hlty : ky < i := by have := (opsOk_y hop rfl).2; dsimp only at this; omega
          have HMR := Lib.hid (mark_row HW.out hi (.cells #[.int .i64 7, .int .i64 ii, .int .i64 e, .int .i64 gg, .int .i64 (kx : Int), .int .i64 (ky : Int)] 53))
          have hbx0 := Box.made (w.setCell ⟨bd, i, none⟩ (.bool true)) ⟨7, ii, e, gg, (kx : Int), (ky : Int)⟩ 53
          rw [show (w.setCell ⟨bd, i, none⟩ (.bool true)).heap.size = w.heap.size from by simp] at hbx0
          have HBX := Lib.hid hbx0
          clear hbx0
          have HAM : Hid (atomsL q (s.mark i).order = atomsL q s.order) := Lib.hid (by
            show atomsL q (s.order ++ [i]) = _
            rw [HAT.out]
            rfl)
          have HW1 : Hid (WK _ base bw bd n (some aq) c (s.mark i).met (atomsL q (s.mark i).order)) := Lib.hid (by rw [HAM.out]; exact HMR.out.1)
          have HRW : Hid (∀ W : World, FrA bw bd w W → Reads W B 6 (some aq) n (nds q)) := Lib.hid (fun W h => HR.out.below (h.low (by omega) hB.1 hB.2.1 (fun g hg => by have := (HW.out.row g hg).1; omega)))
          go_enter Tryd.func66, Tryd.ntmps66
          go_wp2_with fail
          refine (HIH.out kx (s.mark i) _ (by omega) (by omega) HMK.out HW1.out (HRW.out _ HMR.out.2.1)).mono ?_
          rintro r w2 ⟨rfl, hk, hfr⟩
          have hbx := HBX.out.keep (W' := w2) (hfr.out.block w.heap.size (by simp) (by omega) (by have := HW.out.ld; omega) HMR.out.2.2)
          have HBX2 := Lib.hid hbx
          have HF2 := Lib.hid (HMR.out.2.1.trans hfr.out)
          have HMK2 : Hid (MetOk n (meetF q fuel kx (s.mark i))) := Lib.hid (by have := meet_ok hq fuel kx (by omega) (by omega) (s.mark i) (by rw [hl]; exact HMK.out); rw [hl] at this; exact this)
          clear hbx hfr
          obtain ⟨b0, b1, b2, b3, b4, b5, _⟩ := HBX2.out
          go_wp2_with fail
          refine (HIH.out ky (meetF q fuel kx (s.mark i)) w2 (by omega) (by omega) HMK2.out hk.out (HRW.out _ HF2.out)).mono ?_
          rintro r w3 ⟨rfl, hk3, hfr3⟩
          clear b0 b1 b2 b3 b4 b5
          go_wp2
          first | go_end0 | (refine bodyPost_ret (results_none rfl _ _ _) rfl ?_)
          rw [HM2.out]
          exact ⟨rfl, hk3, Lib.hid (HF2.out.trans hfr3.out)⟩
      by_cases h8 : op = 8
      · subst h8
        as_aux_lemma =>
          obtain ⟨kx, hkx⟩ : ∃ k : Nat, x = (k : Int) := ⟨x.toNat, by have := (opsOk_x hop rfl).1; dsimp only at this; omega⟩
          subst hkx
          have hltx : kx < i := by have := (opsOk_x hop rfl).2; dsimp only at this; omega
          obtain ⟨ky, hky⟩ : ∃ k : Nat, yy = (k : Int) := ⟨yy.toNat, by have := (opsOk_y hop rfl).1; dsimp only at this; omega⟩
          subst hky
          have hlty : ky < i := by have := (opsOk_y hop rfl).2; dsimp only at this; omega
          have HMR := Lib.hid (mark_row HW.out hi (.cells #[.int .i64 8, .int .i64 ii, .int .i64 e, .int .i64 gg, .int .i64 (kx : Int), .int .i64 (ky : Int)] 53))
          have hbx0 := Box.made (w.setCell ⟨bd, i, none⟩ (.bool true)) ⟨8, ii, e, gg, (kx : Int), (ky : Int)⟩ 53
          rw [show (w.setCell ⟨bd, i, none⟩ (.bool true)).heap.size = w.heap.size from by simp] at hbx0
          have HBX := Lib.hid hbx0
          clear hbx0
          have HAM : Hid (atomsL q (s.mark i).order = atomsL q s.order) := Lib.hid (by
            show atomsL q (s.order ++ [i]) = _
            rw [HAT.out]
            rfl)
          have HW1 : Hid (WK _ base bw bd n (some aq) c (s.mark i).met (atomsL q (s.mark i).order)) := Lib.hid (by rw [HAM.out]; exact HMR.out.1)
          have HRW : Hid (∀ W : World, FrA bw bd w W → Reads W B 6 (some aq) n (nds q)) := Lib.hid (fun W h => HR.out.below (h.low (by omega) hB.1 hB.2.1 (fun g hg => by have := (HW.out.row g hg).1; omega)))
          go_enter Tryd.func66, Tryd.ntmps66
          go_wp2_with fail
          refine (HIH.out kx (s.mark i) _ (by omega) (by omega) HMK.out HW1.out (HRW.out _ HMR.out.2.1)).mono ?_
          rintro r w2 ⟨rfl, hk, hfr⟩
          have hbx := HBX.out.keep (W' := w2) (hfr.out.block w.heap.size (by simp) (by omega) (by have := HW.out.ld; omega) HMR.out.2.2)
          have HBX2 := Lib.hid hbx
          have HF2 := Lib.hid (HMR.out.2.1.trans hfr.out)
          have HMK2 : Hid (MetOk n (meetF q fuel kx (s.mark i))) := Lib.hid (by have := meet_ok hq fuel kx (by omega) (by omega) (s.mark i) (by rw [hl]; exact HMK.out); rw [hl] at this; exact this)
          clear hbx hfr
          obtain ⟨b0, b1, b2, b3, b4, b5, _⟩ := HBX2.out
          go_wp2_with fail
          refine (HIH.out ky (meetF q fuel kx (s.mark i)) w2 (by omega) (by omega) HMK2.out hk.out (HRW.out _ HF2.out)).mono ?_
          rintro r w3 ⟨rfl, hk3, hfr3⟩
          clear b0 b1 b2 b3 b4 b5
          go_wp2
          first | go_end0 | (refine bodyPost_ret (results_none rfl _ _ _) rfl ?_)
          rw [HM2.out]
          exact ⟨rfl, hk3, Lib.hid (HF2.out.trans hfr3.out)⟩
      have e1 : (op == 1) = false := by simpa using h1
      have e2 : (op == 2) = false := by simpa using h2
      have e4 : (op == 4) = false := by simpa using h4
      have e5 : (op == 5) = false := by simpa using h5
      have e6 : (op == 6) = false := by simpa using h6
      have e7 : (op == 7) = false := by simpa using h7
      have e8 : (op == 8) = false := by simpa using h8
      have hat : atomOp op = true := by unfold known at hkn; unfold atomOp; simp at hkn ⊢; omega
      have HNA : Hid (atomsL q (s.mark i).order = atomsL q s.order ++ [i]) := Lib.hid (by
        show atomsL q (s.order ++ [i]) = _
        rw [HAT.out, if_pos hat])
      have HM3 : Hid (meetF q (fuel + 1) i s = s.mark i) := Lib.hid (by rw [HM2.out, if_neg (by omega), if_neg (by omega)]; rfl)
      obtain ⟨i0, hi0, hz0, hz1, hz2⟩ := info_parts Tryd.infoIR
      have HMR := Lib.hid (mark_row HW.out hi (.cells #[.int .i64 op, .int .i64 ii, .int .i64 e, .int .i64 gg, .int .i64 x, .int .i64 yy] 53))
      have hbx0 := Box.made (w.setCell ⟨bd, i, none⟩ (.bool true)) ⟨op, ii, e, gg, x, yy⟩ 53
      rw [show (w.setCell ⟨bd, i, none⟩ (.bool true)).heap.size = w.heap.size from by simp] at hbx0
      have HBX := Lib.hid hbx0
      clear hbx0
      obtain ⟨A2, c2, k2, hw2⟩ := HW.out.out
      have HO2 := Lib.hid ((ownsRow_setCell_below (a := ⟨bd, i, none⟩) hw2 HW.out.ld (.bool true)).alloc (.cells #[.int .i64 op, .int .i64 ii, .int .i64 e, .int .i64 gg, .int .i64 x, .int .i64 yy] 53))
      have HO1 : Hid (((w.setCell ⟨bd, i, none⟩ (.bool true)).alloc (.cells #[.int .i64 op, .int .i64 ii, .int .i64 e, .int .i64 gg, .int .i64 x, .int .i64 yy] 53)).cell? ⟨bw, 2, none⟩ = some (.slice A2 (atomsL q s.order).length c2)) := Lib.hid ((World.cell?_alloc_lt _ _ ⟨bw, 2, none⟩ (by show bw < _; simp; omega)).trans ((World.cell?_of_block (a := ⟨bw, 2, none⟩) (Below.heap_setCell _ _ _ _ hne)).trans k2))
      have hk2w := HO1.out
      have hk2v : (w.setCell ⟨bd, i, none⟩ (.bool true)).cell? ⟨bw, 2, none⟩ = some (.slice A2 (atomsL q s.order).length c2) := (World.cell?_of_block (a := ⟨bw, 2, none⟩) (Below.heap_setCell _ _ _ _ hne)).trans k2
      have k2f := HW.out.fout
      have hle := HLE.out
      have hWS : ((w.setCell ⟨bd, i, none⟩ (.bool true)).alloc (.cells #[.int .i64 op, .int .i64 ii, .int .i64 e, .int .i64 gg, .int .i64 x, .int .i64 yy] 53)).heap.size = w.heap.size + 1 := by simp
      have HWS := Lib.hid hWS
      clear hw2 HM2 hat hWS
      go_enter Tryd.func66, Tryd.ntmps66
      go_wp2_with (at_builtin; refine wpList_append_lies _ rfl _ _ 73 rfl base 3 i0 (.int .i64 0) 1 8 Tryd.underlying73 hi0 hz0 hz1 hz2 rfl (by decide) _ _ _ rfl (HO2.out.alloc _) ⟨w.heap.size + 1, 0, none⟩ 1 1 [.int .i64 (i : Int)] rfl rfl ?k1 ?k2 (by decide) ?k3 ?k4 ?k5 _ rfl ?_)
      case k2 => rfl
      case k3 => unfold maxLen; omega
      case k4 => omega
      case k5 => omega
      · intro gv cv w5 hown' hgrow hnew hglt
        have hq5 : w5.ownsRow base 3 1 (.slice (some ⟨gv, 0, none⟩) ((atomsL q s.order).length + 1) cv) ((atomsL q s.order).length + 1) (iv (atomsL q s.order ++ [i])) := by
          rw [iv_append]; exact hown'
        have hn5 : (Value.slice A2 (atomsL q s.order).length c2).ownBlock = some gv ∨ ((w.setCell ⟨bd, i, none⟩ (.bool true)).alloc (.cells #[.int .i64 op, .int .i64 ii, .int .i64 e, .int .i64 gg, .int .i64 x, .int .i64 yy] 53)).heap.size ≤ gv := hnew.imp id (fun e => by rw [e]; simp)
        have hfin := WK.app (gv := gv) HMR.out.1 HO1.out HO2.out hq5 hgrow hn5
        have k5c : w5.cell? ⟨bw, 2, none⟩ = some (.slice A2 (atomsL q s.order).length c2) := by
          have hb5 : w5.heap[bw]? = _ := hgrow.block bw (by simp; omega) (fun e => by have := (HO2.out.lt bw e.symm).1; have := HW.out.lw; omega)
          exact (World.cell?_of_block (a := ⟨bw, 2, none⟩) hb5).trans ((World.cell?_alloc_lt _ _ ⟨bw, 2, none⟩ (by show bw < _; simp; omega)).trans HO1.out)
        have k5f : w5.frozen? ⟨bw, 2, none⟩ = false := by
          have hb5 : w5.heap[bw]? = _ := hgrow.block bw (by simp; omega) (fun e => by have := (HO2.out.lt bw e.symm).1; have := HW.out.lw; omega)
          have hb6 : w5.heap[bw]? = w.heap[bw]? := hb5.trans ((Below.heap_alloc _ _ bw (by simp; omega)).trans ((Below.heap_alloc _ _ bw (by simp; omega)).trans (Below.heap_setCell _ _ _ _ hne)))
          exact (World.frozen?_of_block (a := ⟨bw, 2, none⟩) hb6).trans k2f
        have HFIN := Lib.hid hfin
        clear hfin hq5 hn5 hown' hgrow hnew
        go_wp2
        first | go_end0 | (refine bodyPost_ret (results_none rfl _ _ _) rfl ?_)
        rw [HM3.out]
        refine ⟨rfl, Lib.hid ?_, Lib.hid (HMR.out.2.1.trans HFIN.out.2)⟩
        rw [HNA.out]
        exact HFIN.out.1
end Go.Proofs.YtcdmchaehafijaaDoor
