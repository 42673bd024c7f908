/- WorldsetPermutes (P1.6): renaming by a permutation keeps the number of worlds, and the inverse permutation undoes it; for every set and every permutation that up to 64 exchanges make. Conditions: the package variables that the row lists hold what the program's text lays in them. -/
import Derived.Test.YtnkjcieeckibbaaDoorWp
import Derived.Test.YtnkjcieeckibbaaDoorWq
import Derived.Test.YtnkjcieeckibbaaDoorWr
import Derived.Deep.DeepCutAuto
namespace Go.Proofs.YtnkjcieeckibbaaDoor.worldsetPermutes
open Go.ChangeShapes Go.WideShapes Go.ChangeAt Go.RowKit Go.Proofs.YtnkjcieeckibbaaDoor Go.Proofs.Ws
/-- block g holds just these numbers -/
def Holds (w : World) (g : Nat) (l : List Nat) : Prop := w.heap[g]? = some (.cells (iv l).toArray 3 (0, 0))
def zeros : List Nat := List.replicate 64 0
def Z64 : Array Value := (iv zeros).toArray
theorem make64 (w : World) : (Instr.makeSlice 22 (.int .i64 64) (.int .i64 64)).run Tryd.prog w = .ok (.slice (some ⟨w.heap.size, 0, none⟩) 64 64) (w.alloc (.cells Z64 3)) := by
  obtain ⟨i0, hi, hz0, hz1, hz2⟩ := info_parts Tryd.info3
  have h := run_makeSlice (P := Tryd.prog) w 22 3 i0 (.int .i64 0) Tryd.underlying22 hi hz0 .i64 .i64 64 64 (by decide) (by decide) (by rw [hz1]; decide) (by rw [hz2]; decide) (by decide)
  rw [h, hz1, show madeCells (Value.int IntKind.i64 0).cells (Int.toNat 64 * 1) = Z64 from by kernel_rfl]
  rfl
theorem Holds.cell {w : World} {g : Nat} {l : List Nat} (h : Holds w g l) (k : Nat) (hk : k < l.length) : w.cell? ⟨g, k, none⟩ = some (.int .i64 ((l.getD k 0 : Nat) : Int)) := by
  rw [Lib.cell_of_heap h, List.getElem?_toArray]
  unfold iv
  rw [List.getElem?_map, List.getElem?_eq_getElem hk, List.getD_eq_getElem?_getD, List.getElem?_eq_getElem hk]
  rfl
theorem Holds.free {w : World} {g : Nat} {l : List Nat} (h : Holds w g l) (k : Nat) : w.frozen? ⟨g, k, none⟩ = false := Lib.frozen_of_heap h k
theorem Holds.put {w : World} {g : Nat} {l : List Nat} (h : Holds w g l) (k x : Nat) : Holds (w.setCell ⟨g, k, none⟩ (.int .i64 (x : Int))) g (l.set k x) := by
  unfold Holds at h ⊢
  have e : (iv (l.set k x)).toArray = (iv l).toArray.setIfInBounds k (.int .i64 (x : Int)) := by
    unfold iv
    rw [List.map_set]
    simp
  rw [e]
  simp [World.setCell, Array.getElem?_modify, h]
theorem Holds.far {w : World} {g g' : Nat} {l : List Nat} (h : Holds w g l) (hne : g ≠ g') (k : Nat) (u : Value) : Holds (w.setCell ⟨g', k, none⟩ u) g l :=
  (Below.heap_setCell w ⟨g', k, none⟩ u g hne).trans h
/-- a permutation of the worlds -/
def Pm (l : List Nat) : Prop := l.length = 64 ∧ (∀ i, i < 64 → l.getD i 0 < 64) ∧ ∀ i j, i < 64 → j < 64 → l.getD i 0 = l.getD j 0 → i = j
theorem getD_set (l : List Nat) (i x j : Nat) (hi : i < l.length) : (l.set i x).getD j 0 = if i = j then x else l.getD j 0 := by
  rw [List.getD_eq_getElem?_getD, List.getElem?_set]
  by_cases h : i = j
  · subst h
    rw [if_pos rfl, if_pos hi, if_pos rfl]; rfl
  · rw [if_neg h, if_neg h, ← List.getD_eq_getElem?_getD]
theorem Pm.swap {l : List Nat} (h : Pm l) (i j : Nat) (hi : i < 64) (hj : j < 64) : Pm ((l.set i (l.getD j 0)).set j (l.getD i 0)) := by
  obtain ⟨h1, h2, h3⟩ := h
  have e : ∀ x, ((l.set i (l.getD j 0)).set j (l.getD i 0)).getD x 0 = if j = x then l.getD i 0 else if i = x then l.getD j 0 else l.getD x 0 := fun x => by
    rw [getD_set _ _ _ _ (by rw [List.length_set]; omega), getD_set _ _ _ _ (by omega)]
  refine ⟨by rw [List.length_set, List.length_set]; exact h1, fun x hx => ?_, fun x y hx hy => ?_⟩
  · rw [e]
    split
    · exact h2 i hi
    · split
      · exact h2 j hj
      · exact h2 x hx
  · rw [e, e]
    have a1 := h3 i j hi hj
    have a2 := h3 i x hi hx
    have a3 := h3 i y hi hy
    have a4 := h3 j x hj hx
    have a5 := h3 j y hj hy
    have a6 := h3 x y hx hy
    have b2 := h3 x i hx hi
    have b4 := h3 x j hx hj
    split <;> split <;> (try split) <;> (try split) <;> intro hh <;> first | omega | (have := a1 hh; omega) | (have := a2 hh; omega) | (have := a3 hh; omega) | (have := a4 hh; omega) | (have := a5 hh; omega) | (exact a6 hh) | (have := b2 hh; omega) | (have := b4 hh; omega) | (have := a1 hh.symm; omega)
theorem Pm.id_ {l : List Nat} (h : l.length = 64) (h2 : ∀ j, j < 64 → l.getD j 0 = j) : Pm l :=
  ⟨h, fun i hi => by rw [h2 i hi]; exact hi, fun i j hi hj e => by rw [h2 i hi, h2 j hj] at e; exact e⟩
theorem orL_bit : ∀ (l : List Nat) (x : Nat), (orL l).testBit x = decide (x ∈ l)
  | [], x => by simp [orL]
  | w :: l, x => by
    rw [orL, Nat.testBit_or, p2_bit, orL_bit l x]
    by_cases h : w = x
    · subst h; simp
    · have h' : ¬ x = w := fun e => h e.symm
      simp [h, h']
theorem orL_congr (l m : List Nat) (h : ∀ x, x ∈ l ↔ x ∈ m) : orL l = orL m := by
  apply Nat.eq_of_testBit_eq
  intro x
  rw [orL_bit, orL_bit]
  exact decide_eq_decide.2 (h x)
theorem orL_lt : ∀ (l : List Nat), (∀ j ∈ l, j < 64) → orL l < 18446744073709551616 := fun l h => by
  rw [show (18446744073709551616 : Nat) = 2 ^ 64 from rfl]
  apply Nat.lt_pow_two_of_testBit
  intro i hi
  rw [orL_bit]
  simp only [decide_eq_false_iff_not]
  intro hm
  have := h i hm
  omega
theorem renV_all (m : List Nat) : ∀ (l : List Nat) (a : Nat), (∀ k ∈ l, k < m.length ∧ m.getD k 0 < 64) → renV (m.map (fun n : Nat => (n : Int))) l a = (a ||| orL (l.map (fun k => m.getD k 0)), 0)
  | [], a, _ => by simp [renV, orL]
  | k :: l, a, h => by
    have hk := h k (by simp)
    have e : (m.map (fun n : Nat => (n : Int))).getD k 0 = ((m.getD k 0 : Nat) : Int) := by
      rw [List.getD_eq_getElem?_getD, List.getD_eq_getElem?_getD, List.getElem?_map, List.getElem?_eq_getElem hk.1]
      rfl
    rw [renV, e, if_pos (by rw [List.length_map]; exact hk.1), if_pos (by omega), renV_all m l _ (fun j hj => h j (by simp [hj]))]
    rw [Int.toNat_natCast, List.map_cons, orL, Nat.or_assoc]
theorem mem_nodup (s : Nat) : (mem s).Nodup := by unfold mem; exact List.Pairwise.filter _ List.nodup_range
theorem mem_orL (l : List Nat) (x : Nat) (h : ∀ j ∈ l, j < 64) : x ∈ mem (orL l) ↔ x ∈ l := by
  rw [mem_iff, orL_bit]
  simp only [decide_eq_true_eq]
  exact ⟨fun q => q.2, fun q => ⟨h x q, q⟩⟩
/-- the set of the new numbers -/
def to_ (s : Nat) (l : List Nat) : Nat := orL ((mem s).map (fun k => l.getD k 0))
theorem Pm.small {l : List Nat} (h : Pm l) (s : Nat) : ∀ j ∈ (mem s).map (fun k => l.getD k 0), j < 64 := fun j hj => by
  obtain ⟨k, hk, rfl⟩ := List.mem_map.1 hj
  exact h.2.1 k (mem_lt s k hk)
theorem to_lt {l : List Nat} (h : Pm l) (s : Nat) : to_ s l < 18446744073709551616 := orL_lt _ (h.small s)
theorem to_ren {l : List Nat} (h : Pm l) (s : Nat) : renV (l.map (fun n : Nat => (n : Int))) (mem s) 0 = (to_ s l, 0) := by
  rw [renV_all l (mem s) 0 (fun k hk => ⟨by rw [h.1]; exact mem_lt s k hk, h.2.1 k (mem_lt s k hk)⟩), Nat.zero_or]; rfl
theorem to_len {l : List Nat} (h : Pm l) (s : Nat) : (mem (to_ s l)).length = (mem s).length := by
  have hn : ((mem s).map (fun k => l.getD k 0)).Nodup := by
    unfold List.Nodup
    rw [List.pairwise_map]
    have hp : (mem s).Pairwise (fun a b => a ∈ mem s ∧ b ∈ mem s ∧ a ≠ b) := by
      have := List.pairwise_iff_forall_sublist (l := mem s) (R := fun a b => a ∈ mem s ∧ b ∈ mem s ∧ a ≠ b)
      refine this.2 fun {a b} hs => ⟨hs.subset (by simp), hs.subset (by simp), ?_⟩
      exact (List.pairwise_iff_forall_sublist.1 (mem_nodup s)) hs
    exact hp.imp fun {a b} ⟨ha, hb, hne⟩ e => hne (h.2.2 a b (mem_lt s a ha) (mem_lt s b hb) e)
  have hp : (mem (to_ s l)).Perm ((mem s).map (fun k => l.getD k 0)) :=
    (List.perm_ext_iff_of_nodup (mem_nodup _) hn).2 fun x => mem_orL _ x (h.small s)
  rw [hp.length_eq, List.length_map]
theorem to_back {l bk : List Nat} (h : Pm l) (hb : bk.length = 64) (hi : ∀ a, a < 64 → bk.getD (l.getD a 0) 0 = a) (s : Nat) (hs : s < 18446744073709551616) :
    renV (bk.map (fun n : Nat => (n : Int))) (mem (to_ s l)) 0 = (s, 0) := by
  have hm : ∀ k, k ∈ mem (to_ s l) ↔ ∃ a, a ∈ mem s ∧ l.getD a 0 = k := fun k => by
    rw [to_, mem_orL _ _ (h.small s), List.mem_map]
  rw [renV_all bk _ 0 (fun k hk => by
    obtain ⟨a, ha, rfl⟩ := (hm k).1 hk
    have ha' := mem_lt s a ha
    exact ⟨by rw [hb]; exact h.2.1 a ha', by rw [hi a ha']; exact ha'⟩), Nat.zero_or]
  rw [orL_congr _ (mem s), orL_mem s hs]
  intro x
  rw [List.mem_map]
  constructor
  · rintro ⟨k, hk, rfl⟩
    obtain ⟨a, ha, rfl⟩ := (hm k).1 hk
    rw [hi a (mem_lt s a ha)]; exact ha
  · intro hx
    exact ⟨l.getD x 0, (hm _).2 ⟨x, hx, rfl⟩, hi x (mem_lt s x hx)⟩
theorem addr0 (g j : Nat) : (⟨g, 0, none⟩ : Addr).add j = ⟨g, j, none⟩ := by
  unfold Addr.add
  split
  · subst_vars; rfl
  · simp
theorem Holds.reads {w : World} {g : Nat} {l : List Nat} (h : Holds w g l) (hl : l.length = 64) : Reads w (g + 1) 1 (some ⟨g, 0, none⟩) 64 (ints (l.map (fun n : Nat => (n : Int)))) := by
  rw [← iv_ints]
  refine ⟨by rw [iv_length, hl], fun _ => ⟨_, rfl, by simp, fun j u hu => ?_⟩⟩
  rw [addr0]
  obtain ⟨k, hk, rfl⟩ := iv_get l j u hu
  have hj : j < l.length := by
    by_cases h' : j < l.length
    · exact h'
    · rw [List.getElem?_eq_none (by omega)] at hk; cases hk
  rw [h.cell j hj, List.getD_eq_getElem?_getD, hk]; rfl
/-- the two made slices -/
def Two (w wx : World) (g1 g2 : Nat) : Prop := g1 ≠ g2 ∧ w.heap.size ≤ g1 ∧ w.heap.size ≤ g2 ∧ Holds wx g1 zeros ∧ Holds wx g2 zeros ∧ Below w.heap.size w wx
theorem two_a (w : World) : Two w (((w.alloc (.cells Z64 3)).alloc (.cells Z64 3)).drew) w.heap.size (w.heap.size + 1) := by
  refine ⟨by omega, Nat.le_refl _, by omega, ?_, ?_, (((Below.refl _ _).alloc (Nat.le_refl _) _).alloc (by simp) _).drew⟩
  · exact (Below.heap_alloc (w.alloc (.cells Z64 3)) _ w.heap.size (by simp)).trans (heap_alloc_new w _)
  · have h := heap_alloc_new (w.alloc (.cells Z64 3)) (.cells Z64 3)
    rw [show (w.alloc (.cells Z64 3)).heap.size = w.heap.size + 1 from by simp] at h
    exact h
theorem Two.swap {w wx : World} {a b : Nat} (h : Two w wx a b) : Two w wx b a := ⟨h.1.symm, h.2.2.1, h.2.1, h.2.2.2.2.1, h.2.2.2.1, h.2.2.2.2.2⟩
set_option maxRecDepth 100000 in
set_option maxHeartbeats 3200000 in
theorem walk_small (zs : List Int) (A : Option Addr) (m c : Nat) (s : Nat) (w : World) (hR : Reads w w.heap.size 1 A m (zs.map (fun z => Value.int .u8 z))) (hm : m ≤ 64) (hz : ∀ z ∈ zs, 0 ≤ z ∧ z < 256) (hs : s < 18446744073709551616) (hE : Env w) :
    Calls Tryd.prog 10 #[.int .u64 s, .slice A m c] w fun e w' => e = .returned (.bool true) ∧ Below w.heap.size w w' := by
  have HS := Lib.hid hs
  have HE := Lib.hid hE
  have HR := Lib.hid hR
  have HZ := Lib.hid hz
  have hmk := make64
  clear hs hE hR hz
  go_enter Tryd.func10, Tryd.ntmps10
  go_upto_region 3 with fail
  go_cut [5, 6] (fun v5 v6 wx => ∃ g1 g2 : Nat, v5 = .slice (some ⟨g1, 0, none⟩) 64 64 ∧ v6 = .slice (some ⟨g2, 0, none⟩) 64 64 ∧ Two w wx g1 g2)
  case first =>
    go_region
    all_goals (go_wp2_with fail; go_meet)
    · exact ⟨_, _, rfl, rfl, two_a w⟩
    · exact ⟨_, _, rfl, rfl, (two_a w).swap⟩
  case rest =>
    obtain ⟨g1, g2, rfl, rfl, ht⟩ := hcut
    obtain ⟨h12, hg1, hg2, hh1, hh2, hb⟩ := ht
    have HH1 := Lib.hid hh1
    have HH2 := Lib.hid hh2
    have HB := Lib.hid hb
    clear hh1 hh2 hb hmk
    go_wp2_with fail
    go_loopw [25] (fun i wr => ∃ (k : Nat) (l : List Nat), k ≤ 64 ∧ i = .int .i64 k ∧ Hid (l.length = 64) ∧ Hid (Holds wr g1 l) ∧ Hid (Holds wr g2 zeros) ∧ Hid (Below w.heap.size w wr) ∧ Hid (∀ j, j < k → l.getD j 0 = j)) (fun i _ => 64 - (intOf i).toNat)
    case atStart => exact ⟨0, zeros, by omega, rfl, Lib.hid (by decide), HH1, HH2, HB, Lib.hid (fun j hj => by omega)⟩
    case round =>
      obtain ⟨k, l, hk, rfl, Hl, H1, H2, Hb, Hv⟩ := hrel
      by_cases hlt : k < 64
      · have hc := H1.out.cell k (by have := Hl.out; omega)
        have hf := H1.out.free k
        have HP := Lib.hid (H1.out.put k k)
        have HQ := Lib.hid (H2.out.far h12.symm k (.int .i64 (k : Int)))
        have HBB : Hid (Below w.heap.size w (wr.setCell ⟨g1, k, none⟩ (.int .i64 (k : Int)))) := Lib.hid (Hb.out.setCell (p := ⟨g1, k, none⟩) hg1 _)
        have HL : Hid ((l.set k k).length = 64) := Lib.hid (by rw [List.length_set]; exact Hl.out)
        have HV : Hid (∀ j, j < k + 1 → (l.set k k).getD j 0 = j) := Lib.hid (fun j hj => by
          rw [List.getD_eq_getElem?_getD, List.getElem?_set]
          by_cases hjk : k = j
          · subst hjk
            rw [if_pos rfl, if_pos (by have := Hl.out; omega)]; rfl
          · rw [if_neg hjk, ← List.getD_eq_getElem?_getD]; exact Hv.out j (by omega))
        go_wp2
        go_roundw
        case rel => exact ⟨k + 1, l.set k k, by omega, by go_num, HL, HP, HQ, HBB, HV⟩
        case measure => simp [intOf]; omega
      · have HPM : Hid (Pm l) := Lib.hid (Pm.id_ Hl.out (fun j hj => Hv.out j (by omega)))
        clear Hv Hl
        go_wp2_with fail
        go_loopw [35] (fun i wr => ∃ (k : Nat) (l : List Nat), k ≤ m ∧ i = .int .i64 k ∧ Hid (Pm l) ∧ Hid (Holds wr g1 l) ∧ Hid (Holds wr g2 zeros) ∧ Hid (Below w.heap.size w wr)) (fun i _ => m - (intOf i).toNat)
        case atStart => exact ⟨0, l, by omega, rfl, HPM, H1, H2, Hb⟩
        case round =>
          clear H1 H2 Hb HPM
          obtain ⟨q, l, hq, rfl, Hp, H1, H2, Hb⟩ := hrel
          by_cases hlq : q < m
          · obtain ⟨ad, u, rfl, hbk, hu, hc⟩ := (HR.out.below Hb.out).at_ hlq
            rw [List.getElem?_map] at hu
            obtain ⟨z, hz, rfl⟩ := Option.map_eq_some_iff.1 hu
            have hzb := HZ.out z (List.mem_of_getElem? hz)
            obtain ⟨x, rfl⟩ := Int.eq_ofNat_of_zero_le hzb.1
            have hx : x < 256 := by omega
            obtain ⟨j, hj⟩ : ∃ j, j = x % 64 := ⟨_, rfl⟩
            have hj64 : j < 64 := by omega
            have ej : (x : Int) % 64 = (j : Int) := by omega
            have hpl := Hp.out.1
            have c1 := H1.out.cell j (by omega)
            have c2 := H1.out.cell q (by omega)
            have f1 := H1.out.free j
            have f2 := H1.out.free q
            obtain ⟨lj, hlj⟩ : ∃ a, a = l.getD j 0 := ⟨_, rfl⟩
            obtain ⟨lq, hlq2⟩ : ∃ a, a = l.getD q 0 := ⟨_, rfl⟩
            rw [← hlj] at c1
            rw [← hlq2] at c2
            have c3 : (wr.setCell ⟨g1, q, none⟩ (.int .i64 (lj : Int))).cell? ⟨g1, j, none⟩ = some (.int .i64 (lj : Int)) := by
              by_cases hqj : q = j
              · subst hqj; exact World.cell?_setCell_same _ _ _ c2
              · rw [World.cell?_setCell_other _ _ _ _ (by first | (simp; done) | (simp; omega) | (intro e; simp at e; omega))]; exact c1
            have HP : Hid (Pm ((l.set q lj).set j lq)) := Lib.hid (by rw [hlj, hlq2]; exact Hp.out.swap q j (by omega) hj64)
            have HP1 := Lib.hid ((H1.out.put q lj).put j lq)
            have HP2 := Lib.hid ((H2.out.far h12.symm q (.int .i64 (lj : Int))).far h12.symm j (.int .i64 (lq : Int)))
            have HPB : Hid (Below w.heap.size w ((wr.setCell ⟨g1, q, none⟩ (.int .i64 (lj : Int))).setCell ⟨g1, j, none⟩ (.int .i64 (lq : Int)))) := Lib.hid ((Hb.out.setCell (p := ⟨g1, q, none⟩) hg1 _).setCell (p := ⟨g1, j, none⟩) hg1 _)
            clear hu hz hzb hj hpl hlj hlq2
            go_wp2_with fail
            go_region
            all_goals (go_wp2_with fail)
            all_goals go_roundw
            case rel => exact ⟨q + 1, (l.set q lj).set j lq, by omega, by go_num, HP, HP1, HP2, Lib.hid HPB.out.drew⟩
            case measure => simp [intOf]; omega
          · go_wp2_with fail
            clear HZ HR
            go_loopw [60] (fun i wx => ∃ (k : Nat) (bk : List Nat), k ≤ 64 ∧ i = .int .i64 k ∧ Hid (bk.length = 64) ∧ Hid (Holds wx g1 l) ∧ Hid (Holds wx g2 bk) ∧ Hid (Below w.heap.size w wx) ∧ Hid (∀ a, a < k → bk.getD (l.getD a 0) 0 = a)) (fun i _ => 64 - (intOf i).toNat)
            case atStart => exact ⟨0, zeros, by omega, rfl, Lib.hid (by decide), H1, H2, Hb, Lib.hid (fun j hj => by omega)⟩
            case round =>
              clear H1 H2 Hb
              obtain ⟨k, bk, hk, rfl, Hl, H1, H2, Hb, Hv⟩ := hrel
              by_cases hlt2 : k < 64
              · have c1 := H1.out.cell k (by have := Hp.out.1; omega)
                obtain ⟨lk, hlk⟩ : ∃ a, a = l.getD k 0 := ⟨_, rfl⟩
                rw [← hlk] at c1
                have hlk64 : lk < 64 := by rw [hlk]; exact Hp.out.2.1 k hlt2
                have c2 := H2.out.cell lk (by have := Hl.out; omega)
                obtain ⟨ov, hov⟩ : ∃ a, a = bk.getD lk 0 := ⟨_, rfl⟩
                rw [← hov] at c2
                have f2 := H2.out.free lk
                have HP := Lib.hid (H1.out.far h12 lk (.int .i64 (k : Int)))
                have HQ := Lib.hid (H2.out.put lk k)
                have HBB : Hid (Below w.heap.size w (wr.setCell ⟨g2, lk, none⟩ (.int .i64 (k : Int)))) := Lib.hid (Hb.out.setCell (p := ⟨g2, lk, none⟩) hg2 _)
                have HL : Hid ((bk.set lk k).length = 64) := Lib.hid (by rw [List.length_set]; exact Hl.out)
                have HV : Hid (∀ a, a < k + 1 → (bk.set lk k).getD (l.getD a 0) 0 = a) := Lib.hid (fun a ha => by
                  rw [getD_set _ _ _ _ (by have := Hl.out; omega)]
                  by_cases hak : a = k
                  · subst hak; rw [if_pos hlk]
                  · rw [if_neg (fun e => hak (Hp.out.2.2 a k (by omega) hlt2 (by rw [← hlk, e]))), Hv.out a (by omega)])
                clear hlk hov
                go_wp2
                go_roundw
                case rel => exact ⟨k + 1, bk.set lk k, by omega, by go_num, HL, HP, HQ, HBB, HV⟩
                case measure => simp [intOf]; omega
              · have HINV : Hid (∀ a, a < 64 → bk.getD (l.getD a 0) 0 = a) := Lib.hid (fun a ha => Hv.out a (by omega))
                clear Hv
                have R1 := Lib.hid (rename_any s _ (some ⟨g1, 0, none⟩) 64 64 _ wr HS.out (HE.out.below Hb.out).1 (H1.out.reads Hp.out.1))
                rw [to_ren Hp.out s] at R1
                have HTL := Lib.hid (to_lt Hp.out s)
                have R2 := Lib.hid (rename_any (to_ s l) _ (some ⟨g2, 0, none⟩) 64 64 _ wr HTL.out (HE.out.below Hb.out).1 (H2.out.reads Hl.out))
                rw [to_back Hp.out Hl.out HINV.out s HS.out] at R2
                have HLN := Lib.hid (to_len Hp.out s)
                have B1 := Lib.hid (bits_any (to_ s l) wr HTL.out)
                have B2 := Lib.hid (bits_any s wr HS.out)
                rw [HLN.out] at B1
                have AW := Lib.hid (awake_any wr (HE.out.below Hb.out))
                generalize to_ s l = t at *
                generalize (mem s).length = cn at *
                clear HE HINV Hl HLN HTL Hp H1 H2
                go_wp2_with fail
                refine (R1.out).mono ?_
                rintro e w' ⟨rfl, rfl⟩
                go_wp2_with fail
                refine (R2.out).mono ?_
                rintro e w' ⟨rfl, rfl⟩
                go_wp2_with fail
                refine (B1.out).mono ?_
                rintro e w' ⟨rfl, rfl⟩
                go_wp2_with fail
                refine (B2.out).mono ?_
                rintro e w' ⟨rfl, rfl⟩
                go_wp2_with fail
                refine (AW.out).mono ?_
                rintro e w' ⟨rfl, hb⟩
                have HBZ := Lib.hid (Hb.out.trans (hb.mono Hb.out.size))
                clear hb
                go_wp2
                go_ret
                exact ⟨rfl, HBZ.out⟩
set_option maxRecDepth 100000 in
set_option maxHeartbeats 3200000 in
theorem walk_big (A : Option Addr) (m c : Nat) (s : Nat) (w : World) (hm : 64 < m) (hm2 : m ≤ maxLen) (hE : Env w) :
    Calls Tryd.prog 10 #[.int .u64 s, .slice A m c] w fun e w' => e = .returned (.bool true) ∧ Below w.heap.size w w' := by
  unfold maxLen at hm2
  have HA := Lib.hid (awake_any w hE)
  clear hE
  go_enter Tryd.func10, Tryd.ntmps10
  go_wp2_with fail
  refine (HA.out).mono ?_
  rintro e w2 ⟨rfl, hb⟩
  have HB := Lib.hid hb
  clear hb
  go_wp2
  go_ret
  exact ⟨rfl, HB.out⟩
set_option maxRecDepth 100000 in
theorem contract (H : Type) (enc : TypeId × Value → H) (W : World) (base : Nat) (args : Array Value) (ds gs : List (DataW H)) (before : List MemPlace)
    (hval : ∀ (j : Nat) t v, Tryd.f10.params[j]? = some t → args[j]? = some v → Value.okWide Tryd.prog W .any base t v)
    (hW : DataW.Whole enc Tryd.prog Tryd.f10.params.toList Rows.worldsetPermutesSpec.vars false W args.toList ds gs before) (hE : Env W) :
    Calls Tryd.prog 10 args W fun e W' => ∃ v, e = .returned v ∧ Rows.worldsetPermutesSpec.post enc Tryd.prog Tryd.f10 false true false false W args v W' := by
  have hW' := hW
  obtain ⟨p, q, hA0, hV, rfl, hfz, hnd⟩ := hW
  have hA : DataW.TrodAll enc Tryd.prog W 0 (fun _ => true) true Tryd.f10.params.toList args.toList ds p := hA0
  rw [Tryd.params10] at hA hval
  obtain ⟨v0, vs0, d0, ds0, p0, q0, hargs, rfl, rfl, h0, r0⟩ := trodAll_cons hA
  obtain ⟨v1, vs1, d1, ds1, p1, q1, rfl, rfl, rfl, h1, r1⟩ := trodAll_cons r0
  obtain ⟨rfl, rfl, rfl⟩ := trodAll_nil r1
  obtain rfl : args = #[v0, v1] := by cases args; simp_all
  obtain ⟨rfl, rfl⟩ := trodVars_none hV
  obtain ⟨a0, rfl, rfl, rfl, w0⟩ := open_int Tryd.underlying23 (hval 0 23 v0 rfl rfl) h0
  obtain ⟨A1, n1, c1, rfl⟩ := okWide_slice Tryd.underlying46 (hval 1 46 v1 rfl rfl)
  have k1 := h1
  have lt1 : ∀ x ∈ p1, x.block < W.heap.size := by obtain ⟨m, hm⟩ := k1; exact DataW.trod_lt m _ _ _ hm
  obtain ⟨z1, w1⟩ : ∃ zs, IsRow .u8 W A1 n1 c1 zs := by
    obtain ⟨fuel, hf⟩ := h1
    rcases open_ints Tryd.underlying46 Tryd.underlying5 (by kernel_rfl) hf with ⟨hcs, _⟩ | ⟨x, l, c, zs, hcs, _, hl, hm, hz, _, hcell, hwz⟩
    · simp [Value.cells] at hcs
      obtain ⟨rfl, rfl, rfl⟩ := hcs
      exact ⟨[], .inl ⟨rfl, rfl, rfl, rfl⟩⟩
    · simp [Value.cells] at hcs
      obtain ⟨rfl, rfl, rfl⟩ := hcs
      exact ⟨zs, .inr ⟨_, rfl, hl, hm, by simpa using hz, hcell, hwz⟩⟩
  clear hA0
  have b0 := bounds_u64 w0
  obtain ⟨s, rfl⟩ := Int.eq_ofNat_of_zero_le b0.1
  obtain ⟨hR, hm, hzw⟩ := w1.reads
  have hwalk : Calls Tryd.prog 10 #[.int .u64 s, .slice A1 n1 c1] W fun e w' => e = .returned (.bool true) ∧ Below W.heap.size W w' := by
    by_cases h64 : n1 ≤ 64
    · exact walk_small (z1.take n1) A1 n1 c1 s W hR h64 (fun z hz => by have := bounds_u8 (hzw z hz); omega) (by omega) hE
    · exact walk_big A1 n1 c1 s W (by omega) hm hE
  refine hwalk.mono fun e W' ⟨he, hg⟩ => ?_
  subst he
  exact ⟨_, rfl, _, _, _, [], _, [], hW', trodAll_mk1 (shut_bool Tryd.underlying4 _), (trodAll_cons_mk (shut_int Tryd.underlying23 w0) (trodAll_cons_mk (Below.trod laidOut (by kernel_rfl) (of_decide_eq_true (by kernel_rfl)) k1 hg lt1) trodAll_mk0)), rfl, hg.frame _, fun h => by cases h⟩
theorem reads (os : Os) {H : Type} (enc : TypeId × Value → H) : ∃ places, DataW.whole enc Tryd.prog ((laidW os).forCall (fun _ _ => 0) ⟨#[], #[.int .u64 0, .slice none 0 0], []⟩).memory Tryd.f10.params.toList Rows.worldsetPermutesSpec.vars false #[Value.int .u64 0, Value.slice none 0 0].toList 8 = some ([.lit (.int .u64 0), .nil], [], places) :=
  ⟨[], by kernel_rfl⟩
set_option maxRecDepth 100000 in
theorem lifted (os : Os) (started : os.Started) (H : Type) (enc : TypeId × Value → H) (F : Stop.Interp) :
    ReturnsInHanded {} Tryd.checked os 10 .any ((OpenSpec.ofChange Rows.worldsetPermutesSpec).preRow enc Tryd.prog Tryd.f10 Rows.worldsetPermutesRow.domain false Rows.worldsetPermutesRow.laid) (((OpenSpec.ofChange Rows.worldsetPermutesSpec).at F).post enc Tryd.prog Tryd.f10 false true false false) := by
  obtain ⟨places, hx⟩ := reads os enc
  refine returnsInHanded_of_row (C := Tryd.checked) (s := OpenSpec.ofChange Rows.worldsetPermutesSpec) own started (by kernel_rfl) Tryd.func10
    (witness_row_at (enc := enc) (C := Tryd.checked) false (laidW os) #[.int .u64 0, .slice none 0 0] (laidW_os os) (vars_ok os _) (heap_ok os _) (by kernel_rfl)
      (OpenSpec.preRow_of_cond 8 hx (by kernel_rfl) (fun k hk => by cases hk) (by kernel_rfl) (laid_met os _))) ?_
  intro W base args ds gs before hval hW _ _ _ hL hsh _
  exact contract H enc W base args ds gs before hval hW (env_of hL hsh)
theorem said : Rows.WorldsetPermutesSaid :=
  OpenClaim.holds_of_cond 10 Tryd.f10 rfl rfl rfl rfl rfl rfl rfl ⟨rfl, rfl, rfl, rfl, rfl⟩ rfl rfl rfl rfl rfl (by kernel_rfl) Tryd.func10 (by kernel_rfl)
    (of_decide_eq_true (by kernel_rfl)) (by unfold Func.isWrapper; first | (rw [if_pos (by decide +kernel)]; kernel_rfl) | (rw [if_neg (by decide +kernel)]; exact ⟨rfl, rfl⟩))
    (fun os started H enc _ F => by rw [OpenClaim.pre_eq_preRow]; exact lifted os started H enc F)
theorem plain (f : FuncId) (fn : Func) (hf : Tryd.pinned.checked.prog.funcNamed "witting/wittinglaw01.WorldsetPermutes" = some f) (hfn : Tryd.pinned.checked.prog.funcs[f]? = some fn) :
    false = Tryd.pinned.checked.prog.looks [] ∧ ∀ (j : Nat) t, fn.params[j]? = some t → Tryd.pinned.checked.prog.wantsStandIn t = false := by
  obtain rfl : f = 10 := Option.some.inj ((show Tryd.prog.funcNamed "witting/wittinglaw01.WorldsetPermutes" = some 10 by kernel_rfl).symm.trans hf) |>.symm
  obtain rfl : fn = Tryd.f10 := (Option.some.inj (Tryd.func10.symm.trans hfn)).symm
  refine ⟨no_looks, fun j t ht => ?_⟩
  rw [Tryd.params10] at ht
  have hm : t ∈ [23, 46] := by simpa using Array.mem_of_getElem? ht
  have hall : ([23, 46].all fun u => !Tryd.prog.wantsStandIn u) = true := by kernel_rfl
  exact (show Tryd.prog.wantsStandIn t = false by simpa using List.all_eq_true.1 hall t hm)
theorem card : Rows.WorldsetPermutesCardSaid :=
  Claim7.holds_tied_plain_at .later [] _ _ _ _ said (fun _ h => by cases h) (by kernel_rfl) (fun _ h => by cases h) worldsetPermutes_row_tie rfl ⟨rfl, rfl⟩ (by kernel_rfl) rfl plain (by kernel_rfl)
#print axioms card
end Go.Proofs.YtnkjcieeckibbaaDoor.worldsetPermutes
