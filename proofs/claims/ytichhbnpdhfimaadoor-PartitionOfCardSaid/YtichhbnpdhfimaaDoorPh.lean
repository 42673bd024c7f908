/- Layer 3: Split, by the program. -/
import Derived.Test.YtichhbnpdhfimaaDoorPg
namespace Go.Proofs.YtichhbnpdhfimaaDoor
open Go.RowKit Go.Proofs.Ws Go.Maps
/-- block g holds just these numbers -/
def HoldsI (w : World) (g : Nat) (l : List Int) : Prop := w.heap[g]? = some (.cells (ints l).toArray 3 (0, 0))
theorem Tryd.infoI : (Tryd.prog.info? 3).map (fun i => (i.zero, i.size, i.bytes)) = some (some (.int .i64 0), 1, 8) := by kernel_rfl
theorem made_ints (n : Nat) : madeCells (Value.int IntKind.i64 0).cells n = (ints (List.replicate n 0)).toArray := by
  apply Array.ext
  · simp [madeCells, ints]
  · intro i h1 h2
    simp [madeCells, ints, Value.cells, Nat.mod_one]
theorem makeI (w : World) (n : Nat) (hn : n ≤ 1000000) : (Instr.makeSlice 24 (.int .i64 (n : Int)) (.int .i64 (n : Int))).run Tryd.prog w = .ok (.slice (some ⟨w.heap.size, 0, none⟩) n n) (w.alloc (.cells (ints (List.replicate n 0)).toArray 3)) := by
  obtain ⟨i0, hi, hz0, hz1, hz2⟩ := info_parts Tryd.infoI
  have h := run_make (P := Tryd.prog) w 24 3 i0 (.int .i64 0) Tryd.underlying24 hi hz0 .i64 .i64 n n (by omega) (Int.le_refl _) (by rw [hz2]; omega) (by omega)
  rw [h, hz1]
  simp only [Int.toNat_natCast, Nat.mul_one]
  rw [made_ints]
theorem HoldsI.cell {w : World} {g : Nat} {l : List Int} (h : HoldsI w g l) (k : Nat) (hk : k < l.length) : w.cell? ⟨g, k, none⟩ = some (.int .i64 (l.getD k 0)) := by
  rw [Lib.cell_of_heap h, List.getElem?_toArray]
  unfold ints
  rw [List.getElem?_map, List.getElem?_eq_getElem hk, List.getD_eq_getElem?_getD, List.getElem?_eq_getElem hk]
  rfl
theorem HoldsI.free {w : World} {g : Nat} {l : List Int} (h : HoldsI w g l) (k : Nat) : w.frozen? ⟨g, k, none⟩ = false := Lib.frozen_of_heap h k
theorem HoldsI.put {w : World} {g : Nat} {l : List Int} (h : HoldsI w g l) (k : Nat) (x : Int) : HoldsI (w.setCell ⟨g, k, none⟩ (.int .i64 x)) g (l.set k x) := by
  unfold HoldsI at h ⊢
  have e : (ints (l.set k x)).toArray = (ints l).toArray.setIfInBounds k (.int .i64 x) := by
    unfold ints
    rw [List.map_set]
    simp
  rw [e]
  simp [World.setCell, Array.getElem?_modify, h]
theorem HoldsI.made (w : World) (l : List Int) : HoldsI (w.alloc (.cells (ints l).toArray 3)) w.heap.size l := heap_alloc_new w _
theorem HoldsI.lt {w : World} {g : Nat} {l : List Int} (h : HoldsI w g l) : g < w.heap.size := (Array.getElem?_eq_some_iff.1 h).1
theorem HoldsI.alloc {w : World} {g : Nat} {l : List Int} (h : HoldsI w g l) (o : Obj) : HoldsI (w.alloc o) g l := (Below.heap_alloc w o g h.lt).trans h
theorem HoldsI.grown {w w' : World} {g : Nat} {l : List Int} {row : Option Nat} (h : HoldsI w g l) (hg : w.grownBy w' row) (hne : some g ≠ row) : HoldsI w' g l := (hg.block g h.lt hne).trans h
theorem HoldsI.reads {w : World} {g : Nat} {l : List Int} (h : HoldsI w g l) : Reads w w.heap.size 1 (some ⟨g, 0, none⟩) l.length (ints l) := by
  refine ⟨by rw [ints_length]; omega, fun _ => ⟨_, rfl, h.lt, fun j u hu => ?_⟩⟩
  rw [addr0]
  unfold ints at hu
  rw [List.getElem?_map] at hu
  obtain ⟨k, hk, rfl⟩ := Option.map_eq_some_iff.1 hu
  have hj : j < l.length := by
    by_cases h' : j < l.length
    · exact h'
    · rw [List.getElem?_eq_none (by omega)] at hk; cases hk
  rw [h.cell j hj, List.getD_eq_getElem?_getD, hk]; rfl
/-- the partition by two lists of numbers -/
def canonL (a b : List Int) : List Int := (List.range a.length).map (fun i => (firstAt a b i : Int))
def qL (a b : List Int) (n k : Nat) : List Int := (List.range n).map (fun i => if i < k then (firstAt a b i : Int) else 0)
theorem qL_set (a b : List Int) (n k : Nat) (_h : k < n) : (qL a b n k).set k (firstAt a b k : Int) = qL a b n (k + 1) := by
  apply List.ext_getElem
  · simp [qL]
  · intro i h1 h2
    rw [List.getElem_set]
    simp only [qL, List.getElem_map, List.getElem_range]
    split
    · rename_i e; subst e; rw [if_pos (by omega)]
    · rename_i e
      by_cases h : i < k
      · rw [if_pos h, if_pos (by omega)]
      · rw [if_neg h, if_neg (by omega)]
theorem zeroI (w : World) : (zeroValue 3).run Tryd.prog w = .ok (.int .i64 0) w := by kernel_rfl
theorem ownsMap_set {w : World} {P : Program} {t : TypeId} {R : Value → Option (DataW Unit × List MemPlace)} {B n : Nat} {D : DataW Unit} (h : w.ownsMap P t R B n D) (g k : Nat) (u : Value) (hne : B ≠ g) : (w.setCell ⟨g, k, none⟩ u).ownsMap P t R B n D := by
  obtain ⟨es, clock, hb, rest⟩ := h
  exact ⟨es, clock, (Below.heap_setCell w ⟨g, k, none⟩ u B hne).trans hb, rest⟩
theorem ownsMap_alloc {w : World} {P : Program} {t : TypeId} {R : Value → Option (DataW Unit × List MemPlace)} {B n : Nat} {D : DataW Unit} (h : w.ownsMap P t R B n D) (o : Obj) : (w.alloc o).ownsMap P t R B n D :=
  h.kept (World.grownBy_alloc w o none) (by simp)
set_option maxRecDepth 100000 in
set_option maxHeartbeats 4000000 in
theorem split_core (a b : List Int) (A A2 : Option Addr) (n c c2 : Nat) (w : World) (hR : Reads w w.heap.size 1 A n (ints a)) (hR2 : Reads w w.heap.size 1 A2 n (ints b)) (hm : n ≤ maxLen) (wa : WFs a) (wb : WFs b) (h0 : partErr a = 0) :
    Calls Tryd.prog 52 #[.slice A n c, .slice A2 n c2] w fun e w' => ∃ A' c', e = .returned (.tuple #[.slice A' n c', .int .i64 0]) ∧ Reads w' w'.heap.size 1 A' n (ints (canonL a b)) ∧ Below w.heap.size w w' := by
  have hl := hR.int_len
  have hl2 := hR2.int_len
  obtain ⟨h64, _⟩ := part_of hl h0
  have HC := Lib.hid (pCheck_any a A n c _ w hR hm)
  rw [h0] at HC
  have HR := Lib.hid hR
  have HR2 := Lib.hid hR2
  have HWA := Lib.hid wa
  have HWB := Lib.hid wb
  have hmk := fun W => makeI W n (by omega)
  have hmm := @run_makeMap Tryd.prog
  have HLEN := Lib.hid hl
  clear hR hR2 wa wb h0 hl hl2
  go_enter Tryd.func52, Tryd.ntmps52
  go_wp2_with fail
  refine (HC.out).mono ?_
  rintro e w' ⟨rfl, rfl⟩
  have HI0 : Hid (MapIs a b 0 (.map []) ∧ HoldsI ((w.alloc (.map #[] 0)).alloc (.cells (ints (List.replicate n 0)).toArray 3)) (w.heap.size + 1) (qL a b n 0) ∧ Below w.heap.size w ((w.alloc (.map #[] 0)).alloc (.cells (ints (List.replicate n 0)).toArray 3))) := Lib.hid ⟨MapIs.start a b, by
      have e : qL a b n 0 = List.replicate n 0 := by
        apply List.ext_getElem
        · simp [qL]
        · intro i h1 h2; simp [qL]
      rw [e]
      have := HoldsI.made (w.alloc (.map #[] 0)) (List.replicate n 0)
      simpa using this, ((Below.refl _ w).alloc (Nat.le_refl _) _).alloc (by simp) _⟩
  have hown0 : ((w.alloc (.map #[] 0)).alloc (.cells (ints (List.replicate n 0)).toArray 3)).ownsMap Tryd.prog 80 (plainElem (H := Unit) Tryd.prog 3) w.heap.size 0 (.map []) :=
    (World.ownsMap_made w Tryd.prog 80 (plainElem (H := Unit) Tryd.prog 3)).kept (World.grownBy_alloc _ _ none) (by simp)
  go_wp2
  clear hmk hmm
  generalize (w.alloc (.map #[] 0)).alloc (.cells (ints (List.replicate n 0)).toArray 3) = wx at *
  go_loopw [30] (fun i wr => ∃ (k : Nat) (D : DataW Unit), k ≤ n ∧ i = .int .i64 k ∧ wr.ownsMap Tryd.prog 80 (plainElem (H := Unit) Tryd.prog 3) w.heap.size k D ∧ Hid (MapIs a b k D ∧ HoldsI wr (w.heap.size + 1) (qL a b n k) ∧ Below w.heap.size w wr)) (fun i _ => n - (intOf i).toNat)
  case atStart => exact ⟨0, .map [], Nat.zero_le _, rfl, hown0, HI0⟩
  case round =>
    clear HI0 hown0
    obtain ⟨k, D, hk, rfl, hown, HI⟩ := hrel
    by_cases hlt : k < n
    · obtain ⟨ad, rfl, _, hc⟩ := (HR.out.below HI.out.2.2).int_at hlt
      obtain ⟨ad2, rfl, _, hc2⟩ := (HR2.out.below HI.out.2.2).int_at hlt
      have hkey := key_at (HWA.out k) (HWB.out k)
      have hGlt := HI.out.2.1.lt
      have HQ : Hid (∀ W, HoldsI W (w.heap.size + 1) (qL a b n k) → HoldsI (W.setCell ⟨w.heap.size + 1, k, none⟩ (.int .i64 (firstAt a b k : Int))) (w.heap.size + 1) (qL a b n (k + 1))) := Lib.hid (fun W hW => by
        have := hW.put k (firstAt a b k : Int)
        rw [qL_set a b n k hlt] at this
        exact this)
      have hqlen : (qL a b n k).length = n := by simp [qL]
      by_cases hs : ∃ j, j < k ∧ sameAt a b k j = true
      · have hh := (HI.out.1.there k).2 hs
        have HAT : Hid (∀ c : Int, D.atKey (keyL (a.getD k 0) (b.getD k 0)) (.lit (.int .i64 0)) = .lit (.int .i64 c) → c = (firstAt a b k : Int)) := Lib.hid (fun c hc => by
          obtain ⟨j, hj, hsj⟩ := hs
          rw [HI.out.1.at_ k j hj hsj] at hc
          injection hc with h1
          injection h1 with _ h2
          exact h2.symm)
        have HM : Hid (MapIs a b (k + 1) D) := Lib.hid (HI.out.1.old hs)
        have HH : Hid (HoldsI wr (w.heap.size + 1) (qL a b n k) ∧ Below w.heap.size w wr) := Lib.hid HI.out.2
        have hcq : wr.cell? ⟨w.heap.size + 1, k, none⟩ = some (.int .i64 ((qL a b n k).getD k 0)) := HI.out.2.1.cell k (by omega)
        have hfq : wr.frozen? ⟨w.heap.size + 1, k, none⟩ = false := HI.out.2.1.free k
        have hown1 : ∀ o, (wr.alloc o).ownsMap Tryd.prog 80 (plainElem (H := Unit) Tryd.prog 3) w.heap.size k D := fun o => ownsMap_alloc hown o
        have HOWN := Lib.hid hown
        have hsz := HI.out.2.2.size
        clear hs HI hown
        generalize (qL a b n k).getD k 0 = old at *
        generalize a.getD k 0 = x at *
        generalize b.getD k 0 = y at *
        go_wp2_with (first
          | (at_lookup; refine wpList_lookup_own_ok_int _ rfl _ _ 78 rfl 80 3 .i64 partLaw Tryd.underlying78 Tryd.underlying3 (zeroI _) w.heap.size k D rfl (hown1 _) _ _ rfl hkey ?_; intro c0 hat0 hwc0)
          | (at_lookup; refine wpList_lookup_own_int _ rfl _ _ 78 rfl 80 3 .i64 partLaw Tryd.underlying78 Tryd.underlying3 (zeroI _) w.heap.size k D rfl (hown1 _) _ _ rfl hkey ?_; intro c1 hat1 hwc1; obtain rfl := HAT.out c1 hat1))
        go_roundw
        case rel => exact ⟨k + 1, D, by omega, by go_num, (ownsMap_alloc (ownsMap_set HOWN.out _ _ _ (by omega)) _).mono (by omega), Lib.hid ⟨HM.out, (HQ.out wr HH.out.1).alloc _, (HH.out.2.setCell (p := ⟨w.heap.size + 1, k, none⟩) (by show w.heap.size ≤ w.heap.size + 1; omega) _).alloc (by simp; omega) _⟩⟩
        case measure => simp [intOf]; omega
      · have hh : Maps.has D (keyL (a.getD k 0) (b.getD k 0)) = false := by
          cases h : Maps.has D (keyL (a.getD k 0) (b.getD k 0))
          · rfl
          · exact absurd ((HI.out.1.there k).1 h) hs
        have hnew := HI.out.1.new HWA.out HWB.out hs
        have hf1 : firstAt a b k = k := firstAt_unique a b k k (sameAt_self a b k) (fun j hj => by
          cases h : sameAt a b k j
          · rfl
          · exact absurd ⟨j, hj, h⟩ hs)
        have HAT : Hid (∀ c : Int, (D.put (keyL (a.getD k 0) (b.getD k 0)) (.lit (.int .i64 (k : Int)))).atKey (keyL (a.getD k 0) (b.getD k 0)) (.lit (.int .i64 0)) = .lit (.int .i64 c) → c = (k : Int)) := Lib.hid (fun c hc => by
          rw [hnew.at_ k k (by omega) (sameAt_self a b k), hf1] at hc
          injection hc with h1
          injection h1 with _ h2
          exact h2.symm)
        rw [hf1] at HQ
        have HM := Lib.hid hnew
        have HH : Hid (HoldsI wr (w.heap.size + 1) (qL a b n k) ∧ Below w.heap.size w wr) := Lib.hid HI.out.2
        have hown1 : ∀ o, (wr.alloc o).ownsMap Tryd.prog 80 (plainElem (H := Unit) Tryd.prog 3) w.heap.size k D := fun o => ownsMap_alloc hown o
        have hsz := HI.out.2.2.size
        clear hs HI hown hnew hf1
        generalize a.getD k 0 = x at *
        generalize b.getD k 0 = y at *
        go_wp2_with (first
          | (at_lookup; refine wpList_lookup_own_ok_int _ rfl _ _ 78 rfl 80 3 .i64 partLaw Tryd.underlying78 Tryd.underlying3 (zeroI _) w.heap.size k D rfl (hown1 _) _ _ rfl hkey ?_; intro c0 hat0 hwc0)
          | (at_mapUpdate; refine wpList_mapUpdate_own _ rfl _ _ _ 78 rfl 80 3 partLaw Tryd.underlying78 _ w.heap.size k D rfl (hown1 _) (by unfold maxLen; omega) _ _ _ rfl rfl hkey _ [] (plainElem_int Tryd.underlying3 (WalkArith.wf_i64 (by omega))) ?_))
        intro w3 hown3 hgrow3
        have hb3 : (wr.alloc (.cells #[.int .i64 x, .int .i64 y] 80)).heap[wr.heap.size]? = some (.cells #[.int .i64 x, .int .i64 y] 80 (0, 0)) := heap_alloc_new wr _
        have hne3 : some wr.heap.size ≠ some w.heap.size := fun e => by injection e with e; omega
        have hs3 : w3.heap[wr.heap.size]? = some (.cells #[.int .i64 x, .int .i64 y] 80 (0, 0)) := (hgrow3.block _ (by simp) hne3).trans hb3
        have hcx : w3.cell? ⟨wr.heap.size, 0, none⟩ = some (.int .i64 x) := by rw [Lib.cell_of_heap hs3]; rfl
        have hcy : w3.cell? ⟨wr.heap.size, 1, none⟩ = some (.int .i64 y) := by rw [Lib.cell_of_heap hs3]; rfl
        have hq3 : HoldsI w3 (w.heap.size + 1) (qL a b n k) := (HH.out.1.alloc _).grown hgrow3 (fun e => by injection e with e; omega)
        have hcq := hq3.cell k (by omega)
        have hfq := hq3.free k
        have HQ3 := Lib.hid hq3
        have HB3 : Hid (Below w.heap.size w w3) := Lib.hid ((HH.out.2.alloc (by omega) _).grown hgrow3 (by simp; omega) (fun j hj => by injection hj with e; omega))
        have HO3 := Lib.hid hown3
        clear hgrow3 hs3 hb3 hq3
        generalize (qL a b n k).getD k 0 = old at *
        go_wp2_with (at_lookup; refine wpList_lookup_own_int _ rfl _ _ 78 rfl 80 3 .i64 partLaw Tryd.underlying78 Tryd.underlying3 (zeroI _) w.heap.size (k + 1) _ rfl hown3 _ _ rfl hkey ?_; intro c1 hat1 hwc1; obtain rfl := HAT.out c1 hat1)
        go_roundw
        case rel => exact ⟨k + 1, _, by omega, by go_num, ownsMap_set HO3.out _ _ _ (by omega), Lib.hid ⟨HM.out, HQ.out w3 HQ3.out, HB3.out.setCell (p := ⟨w.heap.size + 1, k, none⟩) (by show w.heap.size ≤ w.heap.size + 1; omega) _⟩⟩
        case measure => simp [intOf]; omega
    · have hkn : n = k := by omega
      subst hkn
      have HE : Hid (canonL a b = qL a b n n) := Lib.hid (by
        unfold canonL qL
        rw [HLEN.out]
        exact List.map_congr_left (fun i hi => by rw [if_pos (List.mem_range.1 hi)]))
      clear hown
      go_wp2
      go_ret2
      refine ⟨_, n, rfl, ?_, HI.out.2.2⟩
      rw [HE.out]
      have := HI.out.2.1.reads
      have hq : (qL a b n n).length = n := by simp [qL]
      rwa [hq] at this
end Go.Proofs.YtichhbnpdhfimaaDoor
