/- Layer 6: texts joined: UOb UOc UOd. -/
import Derived.Test.YtopkmcoblndokaaDoorNTa
import Derived.Test.YtopkmcoblndokaaDoorNTb
import Derived.Lib.Walk
import Derived.Lib.SliceRun
import Derived.BigQuiet
/- Layer 10: lists of ints in memory; copies and equality; lists of clauses. -/
namespace Go.Proofs.YtopkmcoblndokaaDoor.rsl
open Go.RowKit Go.Proofs.Ws.rsl
/-- block g holds just these numbers -/
def HoldsI (w : World) (g : Nat) (l : List Int) : Prop := w.heap[g]? = some (.cells (ints l).toArray 3 (0, 0))
theorem Tryd.infoI : (Tryd.prog.info? 3).map (fun i => (i.zero, i.size, i.bytes)) = some (some (.int .i64 0), 1, 8) := by kernel_rfl
theorem made_ints (n : Nat) : madeCells (Value.int IntKind.i64 0).cells n = (ints (List.replicate n 0)).toArray := by
  apply Array.ext
  · simp [madeCells, ints]
  · intro i h1 h2
    simp [madeCells, ints, Value.cells, Nat.mod_one]
theorem makeI (w : World) (n : Nat) (hn : n ≤ 1000000) : (Instr.makeSlice 31 (.int .i64 (n : Int)) (.int .i64 (n : Int))).run Tryd.prog w = .ok (.slice (some ⟨w.heap.size, 0, none⟩) n n) (w.alloc (.cells (ints (List.replicate n 0)).toArray 3)) := by
  obtain ⟨i0, hi, hz0, hz1, hz2⟩ := info_parts Tryd.infoI
  have h := run_make (P := Tryd.prog) w 31 3 i0 (.int .i64 0) Tryd.underlying31 hi hz0 .i64 .i64 n n (by omega) (Int.le_refl _) (by rw [hz2]; omega) (by omega)
  rw [h, hz1]
  simp only [Int.toNat_natCast, Nat.mul_one]
  rw [made_ints]
theorem HoldsI.cell {w : World} {g : Nat} {l : List Int} (h : HoldsI w g l) (k : Nat) (hk : k < l.length) : w.cell? ⟨g, k, none⟩ = some (.int .i64 (l.getD k 0)) := by
  rw [Lib.cell_of_heap h, List.getElem?_toArray]
  unfold ints
  rw [List.getElem?_map, List.getElem?_eq_getElem hk, List.getD_eq_getElem?_getD, List.getElem?_eq_getElem hk]
  rfl
theorem HoldsI.free {w : World} {g : Nat} {l : List Int} (h : HoldsI w g l) (k : Nat) : w.frozen? ⟨g, k, none⟩ = false := Lib.frozen_of_heap h k
theorem HoldsI.put {w : World} {g : Nat} {l : List Int} (h : HoldsI w g l) (k : Nat) (x : Int) : HoldsI (w.setCell ⟨g, k, none⟩ (.int .i64 x)) g (l.set k x) := by
  unfold HoldsI at h ⊢
  have e : (ints (l.set k x)).toArray = (ints l).toArray.setIfInBounds k (.int .i64 x) := by
    unfold ints
    rw [List.map_set]
    simp
  rw [e]
  simp [World.setCell, Array.getElem?_modify, h]
theorem HoldsI.made (w : World) (l : List Int) : HoldsI (w.alloc (.cells (ints l).toArray 3)) w.heap.size l := heap_alloc_new w _
theorem HoldsI.lt {w : World} {g : Nat} {l : List Int} (h : HoldsI w g l) : g < w.heap.size := (Array.getElem?_eq_some_iff.1 h).1
theorem HoldsI.alloc {w : World} {g : Nat} {l : List Int} (h : HoldsI w g l) (o : Obj) : HoldsI (w.alloc o) g l := (Below.heap_alloc w o g h.lt).trans h
theorem HoldsI.grown {w w' : World} {g : Nat} {l : List Int} {row : Option Nat} (h : HoldsI w g l) (hg : w.grownBy w' row) (hne : some g ≠ row) : HoldsI w' g l := (hg.block g h.lt hne).trans h
theorem HoldsI.reads {w : World} {g : Nat} {l : List Int} (h : HoldsI w g l) : Reads w w.heap.size 1 (some ⟨g, 0, none⟩) l.length (ints l) := by
  refine ⟨by rw [ints_length]; omega, fun _ => ⟨_, rfl, h.lt, fun j u hu => ?_⟩⟩
  rw [addr0]
  unfold ints at hu
  rw [List.getElem?_map] at hu
  obtain ⟨k, hk, rfl⟩ := Option.map_eq_some_iff.1 hu
  have hj : j < l.length := by
    by_cases h' : j < l.length
    · exact h'
    · rw [List.getElem?_eq_none (by omega)] at hk; cases hk
  rw [h.cell j hj, List.getD_eq_getElem?_getD, hk]; rfl
/-- block g holds these words, and maybe more behind them -/
def HoldsJ (w : World) (g : Nat) (l : List Int) : Prop := ∃ pad : List Value, w.heap[g]? = some (.cells (ints l ++ pad).toArray 3 (0, 0))
theorem HoldsI.pad {w : World} {g : Nat} {l : List Int} (h : HoldsI w g l) : HoldsJ w g l := ⟨[], by rw [List.append_nil]; exact h⟩
theorem HoldsJ.cell {w : World} {g : Nat} {l : List Int} (h : HoldsJ w g l) (k : Nat) (hk : k < l.length) : w.cell? ⟨g, k, none⟩ = some (.int .i64 (l.getD k 0)) := by
  obtain ⟨pad, h⟩ := h
  rw [Lib.cell_of_heap h, List.getElem?_toArray, List.getElem?_append_left (by rw [ints_length]; exact hk)]
  unfold ints
  rw [List.getElem?_map, List.getElem?_eq_getElem hk, List.getD_eq_getElem?_getD, List.getElem?_eq_getElem hk]
  rfl
theorem HoldsJ.free {w : World} {g : Nat} {l : List Int} (h : HoldsJ w g l) (k : Nat) : w.frozen? ⟨g, k, none⟩ = false := by
  obtain ⟨pad, h⟩ := h
  exact Lib.frozen_of_heap h k
theorem HoldsJ.put {w : World} {g : Nat} {l : List Int} (h : HoldsJ w g l) (k : Nat) (x : Int) : HoldsJ (w.setCell ⟨g, k, none⟩ (.int .i64 x)) g (l.set k x) := by
  obtain ⟨pad, h⟩ := h
  by_cases hk : k < l.length
  · refine ⟨pad, ?_⟩
    have e : (ints (l.set k x) ++ pad).toArray = (ints l ++ pad).toArray.setIfInBounds k (.int .i64 x) := by
      unfold ints
      rw [List.map_set]
      simp [hk]
    rw [e]
    simp [World.setCell, Array.getElem?_modify, h]
  · refine ⟨pad.set (k - l.length) (.int .i64 x), ?_⟩
    have e : (ints (l.set k x) ++ pad.set (k - l.length) (.int .i64 x)).toArray = (ints l ++ pad).toArray.setIfInBounds k (.int .i64 x) := by
      rw [List.set_eq_of_length_le (by omega)]
      simp [List.set_append, ints_length, hk]
    rw [e]
    simp [World.setCell, Array.getElem?_modify, h]
theorem HoldsJ.lt {w : World} {g : Nat} {l : List Int} (h : HoldsJ w g l) : g < w.heap.size := by
  obtain ⟨pad, h⟩ := h
  exact (Array.getElem?_eq_some_iff.1 h).1
theorem HoldsJ.below {w w' : World} {B g : Nat} {l : List Int} (h : HoldsJ w g l) (hb : Below B w w') (hg : g < B) : HoldsJ w' g l := by
  obtain ⟨pad, h⟩ := h
  exact ⟨pad, (hb.block g hg).trans h⟩
theorem HoldsJ.reads {w : World} {g : Nat} {l : List Int} (h : HoldsJ w g l) : Reads w w.heap.size 1 (some ⟨g, 0, none⟩) l.length (ints l) := by
  refine ⟨by rw [ints_length]; omega, fun _ => ⟨_, rfl, h.lt, fun j u hu => ?_⟩⟩
  rw [addr0]
  unfold ints at hu
  rw [List.getElem?_map] at hu
  obtain ⟨k, hk, rfl⟩ := Option.map_eq_some_iff.1 hu
  have hj : j < l.length := by
    by_cases h' : j < l.length
    · exact h'
    · rw [List.getElem?_eq_none (by omega)] at hk; cases hk
  rw [h.cell j hj, List.getD_eq_getElem?_getD, hk]; rfl
theorem HoldsJ.of_own {w : World} {base : Nat} {v : Value} {l : List Int} (h : w.ownsRow base 3 1 v l.length (ints l)) (hv : v ≠ .slice none 0 0) : ∃ g c, v = .slice (some ⟨g, 0, none⟩) l.length c ∧ base ≤ g ∧ HoldsJ w g l ∧ l.length ≤ c := by
  rcases h.2 with ⟨e, _⟩ | ⟨g, cap, cur, e, hb, hg, hn, _, hs, ht⟩
  · exact absurd e hv
  · refine ⟨g, cap, e, hb, ⟨cur.toList.drop l.length, ?_⟩, hn⟩
    rw [hg]
    have : cur = (ints l ++ cur.toList.drop l.length).toArray := by
      rw [← ht, Nat.mul_one, List.take_append_drop]
    rw [← this]
set_option maxHeartbeats 2000000 in
set_option maxRecDepth 100000 in
theorem cloneI_any (l : List Int) (A : Option Addr) (n c : Nat) (w : World) (hR : Reads w w.heap.size 1 A n (ints l)) (hn : n ≤ 64) :
    Calls Tryd.prog 31 #[.slice A n c] w fun e w' => ∃ A' c', e = .returned (.slice A' n c') ∧ n ≤ c' ∧ (0 < n → ∃ g, A' = some ⟨g, 0, none⟩ ∧ w.heap.size ≤ g ∧ HoldsJ w' g l) ∧ Below w.heap.size w w' := by
  have e1 := hR.int_len
  have q22 : ∀ (w : World) (a : Option Addr) (n c n' c' : Nat), (binOp .eql 31 (.slice a n c) (.slice none n' c')).run Tryd.prog w = .ok (.bool a.isNone) w := fun w a n c n' c' => Lib.run_eql_slice_nil w _ _ a n c n' c' Tryd.underlying31
  cases A with
  | none =>
    have h0 : n = 0 := by
      apply Classical.byContradiction
      intro h
      obtain ⟨ad, u, hA, _⟩ := hR.at_ (show 0 < n by omega)
      cases hA
    subst h0
    go_enter Tryd.func31, Tryd.ntmps31
    go_wp2
    go_ret
    exact ⟨none, 0, rfl, Nat.le_refl _, fun h => absurd h (by omega), Below.refl _ _⟩
  | some a =>
    obtain ⟨i0, hi, hz0, hz1, hz2⟩ := info_parts Tryd.infoI
    have HR : Hid (Reads w w.heap.size 1 (some a) n (ints l)) := Lib.hid hR
    clear hR
    go_enter Tryd.func31, Tryd.ntmps31
    go_wp2_with (at_builtin; refine wpList_append_own _ rfl _ _ 31 rfl w.heap.size 3 i0 (.int .i64 0) 1 8 Tryd.underlying31 hi hz0 hz1 hz2 rfl (by decide) _ _ _ rfl (World.ownsRow_made w #[] 0 (Nat.le_refl _) (Nat.zero_le _) (by simp)) a n c (ints l) rfl ?qc1 ?qc2 ?qc3 ?qc4 ?qc5 ?qc6 ?_)
    case qc1 => rw [ints_length]; omega
    case qc2 =>
      intro j u hj
      obtain ⟨_, h⟩ := HR.out
      have hjn : j < n := by
        unfold ints at hj
        rw [List.getElem?_map] at hj
        obtain ⟨k, hk, _⟩ := Option.map_eq_some_iff.1 hj
        have := (List.getElem?_eq_some_iff.1 hk).1
        omega
      obtain ⟨ad, hA, hb, hc⟩ := h (by omega)
      cases hA
      exact Lib.cell?_alloc_some _ (hc j u hj)
    case qc3 =>
      intro u hu
      unfold ints at hu
      obtain ⟨k, _, rfl⟩ := List.mem_map.1 hu
      rfl
    case qc4 => unfold maxLen; omega
    case qc5 => omega
    case qc6 => simp
    intro v' w1 hown hgrow hnil
    have hb : Below w.heap.size w w1 := ((Below.refl _ w).alloc (Nat.le_refl _) _).grown hgrow (by simp) (by intro k hk; simp [Value.ownBlock] at hk; omega)
    have hown' : w1.ownsRow w.heap.size 3 1 v' l.length (ints l) := by
      have : 0 + n = l.length := by omega
      rw [← this]; simpa using hown
    obtain ⟨g, c', rfl, hg, hH, hcc⟩ := HoldsJ.of_own hown' hnil
    have HB := Lib.hid hb
    have HH := Lib.hid hH
    clear hown hgrow hnil hb hown' hH
    go_wp2
    go_ret
    exact ⟨_, c', by rw [e1]; rfl, by omega, fun _ => ⟨g, rfl, hg, HH.out⟩, HB.out⟩
theorem drop_getD (l : List Int) (k : Nat) (h : k < l.length) : l.drop k = l.getD k 0 :: l.drop (k + 1) := by
  rw [List.getD_eq_getElem?_getD, List.getElem?_eq_getElem h, List.drop_eq_getElem_cons h]; rfl
set_option maxRecDepth 100000 in
theorem equalI_any (l m : List Int) (A A2 : Option Addr) (n n2 c c2 B : Nat) (w : World) (hR : Reads w B 1 A n (ints l)) (hR2 : Reads w B 1 A2 n2 (ints m)) (hn : n ≤ maxLen) (hn2 : n2 ≤ maxLen) :
    Calls Tryd.prog 62 #[.slice A n c, .slice A2 n2 c2] w fun e w' => e = .returned (.bool (decide (l = m))) ∧ ∃ q, w' = w.drewN q := by
  unfold maxLen at hn hn2
  have e1 := hR.int_len
  have e2 := hR2.int_len
  by_cases h : n = n2
  · subst h
    have HL := Lib.hid e1
    have HL2 := Lib.hid e2
    clear e1 e2
    go_enter Tryd.func62, Tryd.ntmps62
    go_wp2
    go_loopw [13] (fun i wr => ∃ k q : Nat, k ≤ n ∧ i = .int .i64 k ∧ Hid (decide (l = m) = decide (l.drop k = m.drop k)) ∧ wr = w.drewN q) (fun i _ => n - (intOf i).toNat)
    case atStart => exact ⟨0, 0, Nat.zero_le _, rfl, Lib.hid rfl, rfl⟩
    case round =>
      obtain ⟨k, q, hk, rfl, HI, rfl⟩ := hrel
      by_cases hlt : k < n
      · obtain ⟨ad, rfl, hb, hc⟩ := hR.int_at hlt
        obtain ⟨ad2, rfl, hb2, hc2⟩ := hR2.int_at hlt
        have HD := Lib.hid (drop_getD l k (by have := HL.out; omega))
        have HD2 := Lib.hid (drop_getD m k (by have := HL2.out; omega))
        generalize l.getD k 0 = x at *
        generalize m.getD k 0 = y at *
        by_cases hxy : x = y
        · subst hxy
          have HI2 : Hid (decide (l = m) = decide (l.drop (k + 1) = m.drop (k + 1))) := Lib.hid (by rw [HI.out, HD.out, HD2.out]; exact decide_eq_decide.2 (by simp))
          have hb1 : (x != x) = false := by simp
          go_wp2
          go_quiet (fail)
          go_wp2
          go_roundw
          case rel => exact ⟨k + 1, q + nq, by omega, by go_num, HI2, by first | rfl | rw [World.drewN_drewN]⟩
          case measure => simp [intOf]; omega
        · have HE : Hid (decide (l = m) = false) := Lib.hid (by rw [HI.out, HD.out, HD2.out]; simp [hxy])
          have hne : (x != y) = true := by rw [bne_iff_ne]; exact hxy
          clear hxy
          go_wp2
          go_quiet (fail)
          go_wp2
          go_ret
          exact ⟨ret_bool HE.out.symm, ⟨q + nq, by first | rfl | rw [World.drewN_drewN]⟩⟩
      · have HE : Hid (decide (l = m) = true) := Lib.hid (by rw [HI.out, List.drop_eq_nil_of_le (by have := HL.out; omega), List.drop_eq_nil_of_le (by have := HL2.out; omega)]; rfl)
        go_wp2
        go_ret
        exact ⟨ret_bool HE.out.symm, ⟨q, rfl⟩⟩
  · have hne : ((n : Int) != (n2 : Int)) = true := by simp; omega
    have HE : Hid (decide (l = m) = false) := Lib.hid (by simp; intro hh; subst hh; omega)
    clear e1 e2
    go_enter Tryd.func62, Tryd.ntmps62
    go_wp2
    go_ret
    exact ⟨ret_bool HE.out.symm, ⟨0, rfl⟩⟩
/-- a slice of lists of ints -/
structure ZsR (W : World) (B : Nat) (A : Option Addr) (n : Nat) (ls : List (List Int)) : Prop where
  len : ls.length = n
  ex : ∃ vs, Reads W B 1 A n vs ∧ ∀ j, j < n → ∃ Aj cj, vs[j]? = some (.slice Aj (ls.getD j []).length cj) ∧ Reads W B 1 Aj (ls.getD j []).length (ints (ls.getD j [])) ∧ (ls.getD j []).length ≤ maxLen
theorem ZsR.below {W W' : World} {B B2 : Nat} {A : Option Addr} {n : Nat} {ls : List (List Int)} (h : ZsR W B A n ls) (hb : Below B W W') (h2 : B ≤ B2) : ZsR W' B2 A n ls := by
  obtain ⟨vs, h1, h3⟩ := h.ex
  refine ⟨h.len, vs, (h1.below hb).more h2, fun j hj => ?_⟩
  obtain ⟨Aj, cj, e1, e2, e3⟩ := h3 j hj
  exact ⟨Aj, cj, e1, (e2.below hb).more h2, e3⟩
theorem ZsR.at_ {W : World} {B : Nat} {A : Option Addr} {n k : Nat} {ls : List (List Int)} (h : ZsR W B A n ls) (hk : k < n) :
    ∃ ad Aj cj, A = some ad ∧ ad.block < B ∧ W.cell? (ad.add k) = some (.slice Aj (ls.getD k []).length cj) ∧ Reads W B 1 Aj (ls.getD k []).length (ints (ls.getD k [])) ∧ (ls.getD k []).length ≤ maxLen := by
  obtain ⟨vs, h1, h3⟩ := h.ex
  obtain ⟨Aj, cj, e1, e2, e3⟩ := h3 k hk
  obtain ⟨ad, rfl, hb, hc⟩ := h1.2 (by omega)
  exact ⟨ad, Aj, cj, rfl, hb, hc k _ e1, e2, e3⟩
theorem i64_and_one (x : Nat) (hx : x < 4611686018427387904) : bits .and .i64 (x : Int) 1 = ((x &&& 1 : Nat) : Int) :=
  (bits_nat .i64 62 (by decide) (fun n h0 h1 => by rw [IntKind.wrap_i64]; omega) x 1 hx (by decide)).1
theorem bit_i64 (t v : Nat) (ht : t < 4611686018427387904) : (bits .and .i64 ((t : Int) / 2 ^ v) 1 == 1) = t.testBit v := by
  have e : (t : Int) / 2 ^ v = ((t / 2 ^ v : Nat) : Int) := by push_cast; rfl
  rw [e, i64_and_one _ (Nat.lt_of_le_of_lt (Nat.div_le_self _ _) ht), Nat.and_one_is_mod, Nat.testBit_eq_decide_div_mod_eq]
  have hm : t / 2 ^ v % 2 < 2 := Nat.mod_lt _ (by decide)
  generalize t / 2 ^ v % 2 = z at *
  have : z = 0 ∨ z = 1 := by omega
  rcases this with rfl | rfl <;> rfl
theorem zeroI (w : World) : (zeroValue 3).run Tryd.prog w = .ok (.int .i64 0) w := by kernel_rfl
end Go.Proofs.YtopkmcoblndokaaDoor.rsl
/- Layer 10: literals and clauses, by the program. -/
namespace Go.Proofs.YtopkmcoblndokaaDoor.rsl
open Go.RowKit Go.Proofs.Ws.rsl
set_option maxRecDepth 100000
theorem xLit_any (n x : Int) (w : World) (h0 : 0 ≤ n) (h1 : n ≤ 12) :
    Calls Tryd.prog 30 #[.int .i64 n, .int .i64 x] w fun e w' => e = .returned (.bool (litB n x)) ∧ w = w' := by
  by_cases ha : x = 0
  · have HV : Hid (litB n x = false) := Lib.hid (by unfold litB; simp [ha])
    have q1 : (x != 0) = false := by simp [ha]
    clear ha
    go_enter Tryd.func30, Tryd.ntmps30
    go_wp2
    go_ret
    exact ⟨ret_bool HV.out.symm, rfl⟩
  · have q1 : (x != 0) = true := by simp [ha]
    by_cases hb : -n ≤ x
    · have q2 : decide (-n ≤ x) = true := decide_eq_true hb
      by_cases hc : x ≤ n
      · have q3 : decide (x ≤ n) = true := decide_eq_true hc
        have HV : Hid (litB n x = true) := Lib.hid (by unfold litB; exact decide_eq_true ⟨ha, hb, hc⟩)
        clear ha hb hc
        go_enter Tryd.func30, Tryd.ntmps30
        go_wp2
        go_ret
        exact ⟨ret_bool HV.out.symm, rfl⟩
      · have q3 : decide (x ≤ n) = false := decide_eq_false hc
        have HV : Hid (litB n x = false) := Lib.hid (by unfold litB; exact decide_eq_false (fun h => hc h.2.2))
        clear ha hb hc
        go_enter Tryd.func30, Tryd.ntmps30
        go_wp2
        go_ret
        exact ⟨ret_bool HV.out.symm, rfl⟩
    · have q2 : decide (-n ≤ x) = false := decide_eq_false hb
      have HV : Hid (litB n x = false) := Lib.hid (by unfold litB; exact decide_eq_false (fun h => hb h.2.1))
      clear ha hb
      go_enter Tryd.func30, Tryd.ntmps30
      go_wp2
      go_ret
      exact ⟨ret_bool HV.out.symm, rfl⟩
theorem max2_run {P : Program} (ts : Array TypeId) (t : TypeId) (x y m : Int) (w : World) (h : max x y = m) :
    (Builtin.max_ ts t #[.int .i64 x, .int .i64 y]).run P w = .ok (.int .i64 m) w := by
  have e : (Builtin.max_ ts t #[.int .i64 x, .int .i64 y]).run P w = .ok (.int .i64 (if x < y then y else x)) w := by
    simp [Builtin.max_, Builtin.max2]
  rw [e]
  congr 2
  rw [← h]
  simp only [Int.max_def]
  omega
theorem xVar_any (x : Int) (w : World) (h0 : -100 ≤ x) (h1 : x ≤ 100) :
    Calls Tryd.prog 47 #[.int .i64 x] w fun e w' => e = .returned (.int .i64 (varI x)) ∧ w = w' := by
  obtain ⟨m, hm⟩ : ∃ m, max x (-x) = m := ⟨_, rfl⟩
  have HV : Hid (m - 1 = varI x) := Lib.hid (by rw [← hm]; rfl)
  have hmax : ∀ (ts : Array TypeId) (t : TypeId) (W : World), (Builtin.max_ ts t #[.int .i64 x, .int .i64 (-x)]).run Tryd.prog W = .ok (.int .i64 m) W := fun ts t W => max2_run ts t x (-x) m W hm
  have b1 : m ≤ 100 := by omega
  have b2 : -100 ≤ m := by omega
  clear hm
  go_enter Tryd.func47, Tryd.ntmps47
  go_wp2
  go_ret
  exact ⟨ret_i64 HV.out, rfl⟩
theorem clGo_cons (n b x : Int) (c : List Int) : clGo n b (x :: c) = if litB n x = true then (if varI x ≤ b then 9 else clGo n (varI x) c) else 2 := rfl
theorem litB_bound {n x : Int} (h0 : n ≤ 12) (h : litB n x = true) : -12 ≤ x ∧ x ≤ 12 ∧ x ≠ 0 := by
  unfold litB at h
  have := of_decide_eq_true h
  omega
set_option maxHeartbeats 4000000 in
theorem xClause_any (n : Int) (c : List Int) (A : Option Addr) (k cap B : Nat) (w : World) (h0 : 0 ≤ n) (h1 : n ≤ 12) (hR : Reads w B 1 A k (ints c)) (hk : k ≤ maxLen) :
    Calls Tryd.prog 26 #[.int .i64 n, .slice A k cap] w fun e w' => e = .returned (.int .i64 (clE n c)) ∧ w = w' := by
  unfold maxLen at hk
  have HL := Lib.hid hR.int_len
  have HR := Lib.hid hR
  clear hR
  go_enter Tryd.func26, Tryd.ntmps26
  go_wp2
  go_loopw [5, 7, 10] (fun bv _ i wr => ∃ (j : Nat) (b : Int), j ≤ k ∧ i = .int .i64 j ∧ bv = .int .i64 b ∧ Hid (clE n c = clGo n b (c.drop j)) ∧ w = wr) (fun _ _ i _ => k - (intOf i).toNat)
  case atStart => exact ⟨0, -1, Nat.zero_le _, rfl, rfl, Lib.hid rfl, rfl⟩
  case round =>
    obtain ⟨j, b, hj, rfl, rfl, HI, rfl⟩ := hrel
    by_cases hlt : j < k
    · obtain ⟨ad, rfl, hb, hc⟩ := HR.out.int_at hlt
      have HD := Lib.hid (drop_getD c j (by have := HL.out; omega))
      generalize c.getD j 0 = x at *
      have HLIT := Lib.hid (xLit_any n x)
      by_cases hl : litB n x = true
      · obtain ⟨x1, x2, x3⟩ := litB_bound h1 hl
        have HVAR := Lib.hid (fun W => xVar_any x W (by omega) (by omega))
        have HVB : Hid (varI x ≤ 100 ∧ -100 ≤ varI x) := Lib.hid (by unfold varI; omega)
        by_cases hv : varI x ≤ b
        · have HE : Hid (clE n c = 9) := Lib.hid (by rw [HI.out, HD.out, clGo_cons, if_pos hl, if_pos hv])
          have q1 : decide (varI x ≤ b) = true := decide_eq_true hv
          rw [hl] at HLIT
          clear hl hv
          generalize varI x = v at *
          go_wp2_with (first
            | (go_at_call 30; refine (HLIT.out _ h0 h1).mono ?_; rintro e w2 ⟨rfl, rfl⟩)
            | (go_at_call 47; refine (HVAR.out _).mono ?_; rintro e w2 ⟨rfl, rfl⟩))
          go_ret
          exact ⟨ret_i64 HE.out.symm, rfl⟩
        · have HI2 : Hid (clE n c = clGo n (varI x) (c.drop (j + 1))) := Lib.hid (by rw [HI.out, HD.out, clGo_cons, if_pos hl, if_neg hv])
          have q1 : decide (varI x ≤ b) = false := decide_eq_false hv
          rw [hl] at HLIT
          clear hl hv
          generalize varI x = v at *
          go_wp2_with (first
            | (go_at_call 30; refine (HLIT.out _ h0 h1).mono ?_; rintro e w2 ⟨rfl, rfl⟩)
            | (go_at_call 47; refine (HVAR.out _).mono ?_; rintro e w2 ⟨rfl, rfl⟩))
          go_roundw
          case rel => exact ⟨j + 1, v, by omega, by go_num, rfl, HI2, by first | rfl | trivial⟩
          case measure => first | (simp [intOf]; done) | (simp [intOf]; omega)
      · have HE : Hid (clE n c = 2) := Lib.hid (by rw [HI.out, HD.out, clGo_cons, if_neg hl])
        rw [Bool.eq_false_iff.2 hl] at HLIT
        clear hl
        go_wp2_with (first
          | (go_at_call 30; refine (HLIT.out _ h0 h1).mono ?_; rintro e w2 ⟨rfl, rfl⟩)
          | fail)
        go_ret
        exact ⟨ret_i64 HE.out.symm, rfl⟩
    · have hjk : j = k := by omega
      subst hjk
      have HE : Hid (clE n c = 0) := Lib.hid (by rw [HI.out, List.drop_eq_nil_of_le (by have := HL.out; omega)]; rfl)
      go_wp2
      go_ret
      exact ⟨ret_i64 HE.out.symm, rfl⟩
theorem lsGo_cons (n : Int) (c : List Int) (l : List (List Int)) : lsGo n (c :: l) = if clE n c = 0 then lsGo n l else clE n c := rfl
theorem dropZ (l : List (List Int)) (k : Nat) (h : k < l.length) : l.drop k = l.getD k [] :: l.drop (k + 1) := by
  rw [List.getD_eq_getElem?_getD, List.getElem?_eq_getElem h, List.drop_eq_getElem_cons h]; rfl
set_option maxHeartbeats 4000000 in
theorem xCheck_any (n : Int) (l : List (List Int)) (A : Option Addr) (k cap B : Nat) (w : World) (hR : ZsR w B A k l) (hk : k ≤ maxLen) :
    Calls Tryd.prog 24 #[.int .i64 n, .slice A k cap] w fun e w' => e = .returned (.int .i64 (chkR n l)) ∧ w = w' := by
  unfold maxLen at hk
  have hl := hR.len
  by_cases h0 : n < 0
  · have HE : Hid (chkR n l = 2) := Lib.hid (by unfold chkR; rw [if_pos (.inl h0)])
    have q0 : decide (n < 0) = true := decide_eq_true h0
    clear h0
    go_enter Tryd.func24, Tryd.ntmps24
    go_wp2
    go_ret
    exact ⟨ret_i64 HE.out.symm, rfl⟩
  · have q0 : decide (n < 0) = false := decide_eq_false h0
    by_cases h1 : 12 < n
    · have HE : Hid (chkR n l = 2) := Lib.hid (by unfold chkR; rw [if_pos (.inr h1)])
      have q1 : decide (12 < n) = true := decide_eq_true h1
      clear h0 h1
      go_enter Tryd.func24, Tryd.ntmps24
      go_wp2
      go_ret
      exact ⟨ret_i64 HE.out.symm, rfl⟩
    · have q1 : decide (12 < n) = false := decide_eq_false h1
      by_cases h2 : 64 < k
      · have HE : Hid (chkR n l = 8) := Lib.hid (by unfold chkR; rw [if_neg (by omega), if_pos (by omega)])
        have q2 : decide ((64 : Int) < (k : Int)) = true := decide_eq_true (by omega)
        clear h0 h1
        go_enter Tryd.func24, Tryd.ntmps24
        go_wp2
        go_ret
        exact ⟨ret_i64 HE.out.symm, rfl⟩
      · have q2 : decide ((64 : Int) < (k : Int)) = false := decide_eq_false (by omega)
        have HI0 : Hid (chkR n l = lsGo n (l.drop 0)) := Lib.hid (by unfold chkR; rw [if_neg (by omega), if_neg (by omega)]; rfl)
        have HL := Lib.hid hl
        have HR := Lib.hid hR
        have HCL := Lib.hid (fun (c : List Int) (A : Option Addr) (k cap : Nat) (hR : Reads w B 1 A k (ints c)) (hk : k ≤ maxLen) => xClause_any n c A k cap B w (by omega) (by omega) hR hk)
        clear h0 h1 hl hR
        go_enter Tryd.func24, Tryd.ntmps24
        go_wp2
        go_loopw [6, 7, 19] (fun _ _ i wr => ∃ j : Nat, j ≤ k ∧ i = .int .i64 j ∧ Hid (chkR n l = lsGo n (l.drop j)) ∧ w = wr) (fun _ _ i _ => k - (intOf i).toNat)
        case atStart => exact ⟨0, Nat.zero_le _, rfl, HI0, rfl⟩
        case round =>
          obtain ⟨j, hj, rfl, HI, rfl⟩ := hrel
          by_cases hlt : j < k
          · obtain ⟨ad, Aj, cj, rfl, hb, hc, hr, hlj⟩ := HR.out.at_ hlt
            have HD := Lib.hid (dropZ l j (by have := HL.out; omega))
            generalize l.getD j [] = x at *
            have HC := Lib.hid (HCL.out x Aj x.length cj hr hlj)
            clear hr hlj
            by_cases hz : clE n x = 0
            · have HI2 : Hid (chkR n l = lsGo n (l.drop (j + 1))) := Lib.hid (by rw [HI.out, HD.out, lsGo_cons, if_pos hz])
              rw [hz] at HC
              clear hz
              go_wp2_with (first
                | (go_at_call 26; refine (HC.out).mono ?_; rintro e w2 ⟨rfl, rfl⟩)
                | fail)
              go_roundw
              case rel => exact ⟨j + 1, by omega, by go_num, HI2, by first | rfl | trivial⟩
              case measure => first | (simp [intOf]; done) | (simp [intOf]; omega)
            · have HE : Hid (chkR n l = clE n x) := Lib.hid (by rw [HI.out, HD.out, lsGo_cons, if_neg hz])
              have q3 : (clE n x != 0) = true := by rw [bne_iff_ne]; exact hz
              clear hz
              generalize clE n x = e0 at *
              go_wp2_with (first
                | (go_at_call 26; refine (HC.out).mono ?_; rintro e w2 ⟨rfl, rfl⟩)
                | fail)
              go_ret
              exact ⟨ret_i64 HE.out.symm, rfl⟩
          · have hjk : j = k := by omega
            subst hjk
            have HE : Hid (chkR n l = 0) := Lib.hid (by rw [HI.out, List.drop_eq_nil_of_le (by have := HL.out; omega)]; rfl)
            go_wp2
            go_ret
            exact ⟨ret_i64 HE.out.symm, rfl⟩
end Go.Proofs.YtopkmcoblndokaaDoor.rsl
/- Layer 10: what satisfies, by the program. -/
namespace Go.Proofs.YtopkmcoblndokaaDoor.rsl
open Go.RowKit Go.Proofs.Ws.rsl
set_option maxRecDepth 100000
/-- a box of one int -/
def IBox (W : World) (g : Nat) (v : Int) : Prop := W.heap[g]? = some (.cells #[.int .i64 v] 3 (0, 0))
theorem IBox.c0 {W : World} {g : Nat} {v : Int} (h : IBox W g v) : W.cell? ⟨g, 0, none⟩ = some (.int .i64 v) := by rw [Lib.cell_of_heap h]; rfl
theorem IBox.lt {W : World} {g : Nat} {v : Int} (h : IBox W g v) : g < W.heap.size := (Array.getElem?_eq_some_iff.1 h).1
theorem IBox.below {W W' : World} {g B : Nat} {v : Int} (h : IBox W g v) (hb : Below B W W') (hg : g < B) : IBox W' g v := (hb.block g hg).trans h
theorem IBox.made (W : World) (v : Int) : IBox (W.alloc (.cells #[.int .i64 v] 3)) W.heap.size v := heap_alloc_new W _
theorem shr_bit (V j : Nat) (hV : V < 4611686018427387904) : (bits .and .i64 ((V : Int) / 2 ^ min j 64) 1 == 1) = V.testBit j := by
  by_cases h : j ≤ 64
  · rw [Nat.min_eq_left h]; exact bit_i64 V j hV
  · rw [Nat.min_eq_right (by omega), bit_i64 V 64 hV, Nat.testBit_lt_two_pow (Nat.lt_of_lt_of_le hV (by decide)), Nat.testBit_lt_two_pow (Nat.lt_of_lt_of_le hV (Nat.le_trans (by decide) (Nat.pow_le_pow_right (n := 2) (i := 64) (by decide) (by omega))))]
theorem xTrue_any (V : Nat) (x : Int) (g : Nat) (w : World) (hV : V < 4096) (hx0 : x ≠ 0) (h0 : -12 ≤ x) (h1 : x ≤ 12) (hB : w.cell? ⟨g, 0, none⟩ = some (.int .i64 (V : Int))) :
    Calls Tryd.prog 46 #[.int .i64 x, .pointer (some ⟨g, 0, none⟩)] w fun e w' => e = .returned (.bool (litT V x)) ∧ Below w.heap.size w w' := by
  have HVAR := Lib.hid (fun W => xVar_any x W (by omega) (by omega))
  rw [varI_var hx0] at HVAR
  have hj : varOf x ≤ 11 := by unfold varOf; omega
  have HT : Hid ((V.testBit (varOf x) == decide (0 < x)) = litT V x) := Lib.hid rfl
  have hs := shr_bit V (varOf x) (by omega)
  have hs2 := bit_i64 V (varOf x) (by omega)
  generalize varOf x = j at *
  generalize litT V x = b at *
  clear hx0
  go_enter Tryd.func46, Tryd.ntmps46
  go_wp2
  go_quiet (first | (go_at_call 47; exact quiet_same (HVAR.out _)))
  go_wp2
  go_ret
  exact ⟨ret_bool HT.out, below_drewN (Below.refl _ _) _⟩
theorem getD_mem0 {l : List Int} {k : Nat} (h : k < l.length) : l.getD k 0 ∈ l := by
  rw [List.getD_eq_getElem?_getD, List.getElem?_eq_getElem h]; exact List.getElem_mem h
theorem getDZ_mem {l : List (List Int)} {k : Nat} (h : k < l.length) : l.getD k [] ∈ l := by
  rw [List.getD_eq_getElem?_getD, List.getElem?_eq_getElem h]; exact List.getElem_mem h
set_option maxHeartbeats 2000000 in
theorem xIdx_any (V : Nat) (c : List Int) (A : Option Addr) (k cap g : Nat) (w : World) (hV : V < 4096) (hcl : ∀ x ∈ c, x ≠ 0 ∧ -12 ≤ x ∧ x ≤ 12) (hR : Reads w w.heap.size 1 A k (ints c)) (hk : k ≤ 1000000) (hB : IBox w g (V : Int)) :
    Calls Tryd.prog 70 #[.slice A k cap, .func (.func 46) #[] #[.pointer (some ⟨g, 0, none⟩)]] w fun e w' => (∃ r : Int, e = .returned (.int .i64 r) ∧ decide (0 ≤ r) = c.any (litT V)) ∧ Below w.heap.size w w' := by
  have HL := Lib.hid hR.int_len
  have HF := Lib.hid (fun W (hb : Below w.heap.size w W) x (hx : x ∈ c) => xTrue_any V x g W hV (hcl x hx).1 (hcl x hx).2.1 (hcl x hx).2.2 (hB.below hb hB.lt).c0)
  have HR := Lib.hid hR
  clear hV hcl hR hB
  go_enter Tryd.func70, Tryd.ntmps70
  go_wp2
  go_loopw [5, 8] (fun _ i wr => ∃ j : Nat, j ≤ k ∧ i = .int .i64 j ∧ Hid (c.any (litT V) = (c.drop j).any (litT V)) ∧ Hid (Below w.heap.size w wr)) (fun _ i _ => k - (intOf i).toNat)
  case atStart => exact ⟨0, Nat.zero_le _, rfl, Lib.hid rfl, Lib.hid (Below.refl _ _)⟩
  case round =>
    obtain ⟨j, hj, rfl, HI, HO⟩ := hrel
    by_cases hlt : j < k
    · obtain ⟨ad, rfl, _, hcj⟩ := (HR.out.below HO.out).int_at hlt
      have HD := Lib.hid (drop_getD c j (by have := HL.out; omega))
      have HFJ := HF.out wr HO.out (c.getD j 0) (getD_mem0 (by have := HL.out; omega))
      generalize c.getD j 0 = x at *
      by_cases hq : litT V x = true
      · rw [hq] at HFJ
        have HFJ := Lib.hid HFJ
        have HE : Hid (c.any (litT V) = true) := Lib.hid (by rw [HI.out, HD.out, List.any_cons, hq, Bool.true_or])
        clear hq HI
        go_wp2_with fail
        refine (HFJ.out).mono ?_
        rintro e w2 ⟨rfl, hb⟩
        have HO2 := Lib.hid (HO.out.trans (hb.mono HO.out.size))
        clear hb hcj
        go_wp2
        go_ret
        exact ⟨⟨_, rfl, by rw [HE.out]; exact decide_eq_true (by omega)⟩, HO2.out⟩
      · rw [Bool.eq_false_iff.2 hq] at HFJ
        have HFJ := Lib.hid HFJ
        have HI2 : Hid (c.any (litT V) = (c.drop (j + 1)).any (litT V)) := Lib.hid (by rw [HI.out, HD.out, List.any_cons, Bool.eq_false_iff.2 hq, Bool.false_or])
        clear hq HI
        go_wp2_with fail
        refine (HFJ.out).mono ?_
        rintro e w2 ⟨rfl, hb⟩
        have HO2 := Lib.hid (HO.out.trans (hb.mono HO.out.size))
        clear hb hcj
        go_wp2
        go_roundw
        case rel => exact ⟨j + 1, by omega, by go_num, HI2, HO2⟩
        case measure => first | (simp [intOf]; done) | (simp [intOf]; omega)
    · have HE : Hid (c.any (litT V) = false) := Lib.hid (by rw [HI.out, List.drop_eq_nil_of_le (by have := HL.out; omega)]; rfl)
      go_wp2
      go_ret
      exact ⟨⟨-1, rfl, by rw [HE.out]; rfl⟩, HO.out⟩
theorem xHas_any (V : Nat) (c : List Int) (A : Option Addr) (k cap g : Nat) (w : World) (hV : V < 4096) (hcl : ∀ x ∈ c, x ≠ 0 ∧ -12 ≤ x ∧ x ≤ 12) (hR : Reads w w.heap.size 1 A k (ints c)) (hk : k ≤ 1000000) (hB : IBox w g (V : Int)) :
    Calls Tryd.prog 48 #[.slice A k cap, .func (.func 46) #[] #[.pointer (some ⟨g, 0, none⟩)]] w fun e w' => e = .returned (.bool (c.any (litT V))) ∧ Below w.heap.size w w' := by
  have H := Lib.hid (xIdx_any V c A k cap g w hV hcl hR hk hB)
  clear hV hcl hR hB
  generalize c.any (litT V) = b at *
  go_enter Tryd.func48, Tryd.ntmps48
  go_wp2_with fail
  refine (H.out).mono ?_
  rintro e w2 ⟨⟨r, rfl, hq⟩, hb⟩
  have HB := Lib.hid hb
  clear hb
  go_wp2
  go_ret
  exact ⟨rfl, HB.out⟩
/-- clauses all of whose literals are small -/
def Small (l : List (List Int)) : Prop := ∀ c ∈ l, (∀ x ∈ c, x ≠ 0 ∧ -12 ≤ x ∧ x ≤ 12) ∧ c.length ≤ 12
theorem small_of {n : Nat} {l : List (List Int)} (hn : n ≤ 12) (h : ∀ c ∈ l, ClOk n c) : Small l := fun c hc => ⟨fun x hx => by have := (h c hc).lits x hx; omega, by have := (h c hc).len; omega⟩
set_option maxHeartbeats 2000000 in
theorem xSat_any (V : Nat) (l : List (List Int)) (A : Option Addr) (k cap : Nat) (w : World) (hV : V < 4096) (hS : Small l) (hR : ZsR w w.heap.size A k l) (hk : k ≤ 1000000) :
    Calls Tryd.prog 25 #[.slice A k cap, .int .i64 (V : Int)] w fun e w' => e = .returned (.bool (satB V l)) ∧ Below w.heap.size w w' := by
  have hl := hR.len
  have HB1 : Hid (Below w.heap.size w (w.alloc (.cells #[.int .i64 (V : Int)] 3))) := Lib.hid ((Below.refl _ w).alloc (Nat.le_refl _) _)
  have HBX := Lib.hid (IBox.made w (V : Int))
  have HL := Lib.hid hl
  have HR := Lib.hid hR
  have HS := Lib.hid hS
  have HV := Lib.hid hV
  have HSB : Hid (satB V l = (l.drop 0).all (fun c => c.any (litT V))) := Lib.hid rfl
  generalize satB V l = sb at *
  clear hl hR hS hV
  go_enter Tryd.func25, Tryd.ntmps25
  go_wp2
  generalize w.alloc (.cells #[.int .i64 (V : Int)] 3) = w1 at *
  have hg : w.heap.size < w1.heap.size := HBX.out.lt
  generalize hG : w.heap.size = G at *
  have HG := Lib.hid hG
  clear hG
  go_loopw [7, 11] (fun _ i wr => ∃ j : Nat, j ≤ k ∧ i = .int .i64 j ∧ Hid (sb = (l.drop j).all (fun c => c.any (litT V))) ∧ Hid (Below w1.heap.size w1 wr)) (fun _ i _ => k - (intOf i).toNat)
  case atStart => exact ⟨0, Nat.zero_le _, rfl, HSB, Lib.hid (Below.refl _ _)⟩
  case round =>
    obtain ⟨j, hj, rfl, HI, HO⟩ := hrel
    have HOW := Lib.hid (HB1.out.trans (HO.out.mono (Nat.le_of_lt hg)))
    by_cases hlt : j < k
    · obtain ⟨ad, Aj, cj, rfl, _, hcj, hrj, _⟩ := (HR.out.below HOW.out (Nat.le_trans (Nat.le_of_lt hg) HO.out.size)).at_ hlt
      have HD := Lib.hid (dropZ l j (by have := HL.out; omega))
      have hm := getDZ_mem (l := l) (k := j) (by have := HL.out; omega)
      have HFJ := Lib.hid (xHas_any V (l.getD j []) Aj _ cj G wr HV.out (HS.out _ hm).1 hrj (by have := (HS.out _ hm).2; omega) (HBX.out.below HO.out hg))
      clear hm hrj
      generalize l.getD j [] = x at *
      generalize hq : x.any (litT V) = b at *
      cases b with
      | true =>
        have HI2 : Hid (sb = (l.drop (j + 1)).all (fun c => c.any (litT V))) := Lib.hid (by rw [HI.out, HD.out, List.all_cons, hq, Bool.true_and])
        clear hq HI
        go_wp2_with fail
        refine (HFJ.out).mono ?_
        rintro e w2 ⟨rfl, hb⟩
        have HO2 := Lib.hid (HO.out.trans (hb.mono HO.out.size))
        clear hb hcj
        go_wp2
        go_roundw
        case rel => exact ⟨j + 1, by omega, by go_num, HI2, HO2⟩
        case measure => first | (simp [intOf]; done) | (simp [intOf]; omega)
      | false =>
        have HE : Hid (sb = false) := Lib.hid (by rw [HI.out, HD.out, List.all_cons, hq, Bool.false_and])
        clear hq HI
        go_wp2_with fail
        refine (HFJ.out).mono ?_
        rintro e w2 ⟨rfl, hb⟩
        have HO2 := Lib.hid (HO.out.trans (hb.mono HO.out.size))
        clear hb hcj
        go_wp2
        go_ret
        exact ⟨ret_bool HE.out.symm, by rw [HG.out]; exact HB1.out.trans (HO2.out.mono (Nat.le_of_lt hg))⟩
    · have HE : Hid (sb = true) := Lib.hid (by rw [HI.out, List.drop_eq_nil_of_le (by have := HL.out; omega)]; rfl)
      go_wp2
      go_ret
      exact ⟨ret_bool HE.out.symm, by rw [HG.out]; exact HOW.out⟩
end Go.Proofs.YtopkmcoblndokaaDoor.rsl
