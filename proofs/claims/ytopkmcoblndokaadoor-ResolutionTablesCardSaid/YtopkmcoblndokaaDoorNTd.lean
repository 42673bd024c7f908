/- Layer 6: texts joined: UOe UOf UOg. -/
import Derived.Test.YtopkmcoblndokaaDoorNTc
import Derived.Laws.Rows
import Derived.Laws.Tables
import Derived.Deep.WholeRow
import Derived.Maps.RangeWalk
/- Layer 10: Models, Solve, Holds, by the program. -/
namespace Go.Proofs.YtopkmcoblndokaaDoor.rsl
open Go.RowKit Go.Proofs.Ws.rsl
set_option maxRecDepth 100000
def slvO (l : List (List Int)) (P : Nat) : Option Nat := (List.range P).find? (fun v => satB v l)
theorem slv_some {l : List (List Int)} {P v : Nat} (hv : v < P) (h : ∀ u, u < v → satB u l = false) (hs : satB v l = true) : slvO l P = some v := by
  unfold slvO
  rw [List.find?_range_eq_some]
  exact ⟨hs, List.mem_range.2 hv, fun j hj => by rw [h j hj]; rfl⟩
theorem slv_none {l : List (List Int)} {P : Nat} (h : ∀ u, u < P → satB u l = false) : slvO l P = none := by
  unfold slvO
  rw [List.find?_eq_none]
  intro u hu
  rw [h u (List.mem_range.1 hu)]
  decide
def modV (n : Int) (l : List (List Int)) : Int := if chkR n l = 0 then (cntS l (2 ^ n.toNat) : Int) else 0
def slvV (n : Int) (l : List (List Int)) : Int := if chkR n l = 0 then (match slvO l (2 ^ n.toNat) with | some v => (v : Int) | none => 0) else 0
def slvE (n : Int) (l : List (List Int)) : Int := if chkR n l = 0 then (match slvO l (2 ^ n.toNat) with | some _ => 0 | none => 6) else chkR n l
def GivesII (a b : Int) (w : World) (e : Ending) (w' : World) : Prop := e = .returned (.tuple #[.int .i64 a, .int .i64 b]) ∧ Below w.heap.size w w'
theorem ret_ii {a b c d : Int} (h : a = c) (k : b = d) : Ending.returned (.tuple #[.int .i64 a, .int .i64 b]) = .returned (.tuple #[.int .i64 c, .int .i64 d]) := by rw [h, k]
theorem pow_shift {k P : Nat} (hk : k ≤ 12) (hP : 2 ^ k = P) : wrap64 (2 ^ k) = (P : Int) ∧ P ≤ 4096 := by
  have h1 : P ≤ 4096 := by rw [← hP]; exact Nat.pow_le_pow_right (n := 2) (by decide) hk
  refine ⟨?_, h1⟩
  have e : ((2 ^ k : Nat) : Int) = (2 : Int) ^ k := by simp
  rw [← e, hP]
  unfold wrap64
  omega
set_option maxHeartbeats 2000000 in
theorem xModels_any (n : Int) (l : List (List Int)) (A : Option Addr) (k cap : Nat) (w : World) (hR : ZsR w w.heap.size A k l) (hk : k ≤ maxLen) :
    Calls Tryd.prog 10 #[.int .i64 n, .slice A k cap] w (GivesII (modV n l) (chkR n l) w) := by
  have HC := Lib.hid (xCheck_any n l A k cap w.heap.size w hR hk)
  have hl := hR.len
  by_cases hz : chkR n l = 0
  · obtain ⟨m, rfl, hm, hln, hcl⟩ := chkR_ok hz
    obtain ⟨P, hP⟩ : ∃ P : Nat, 2 ^ m = P := ⟨_, rfl⟩
    have HV : Hid (modV (m : Int) l = (cntS l P : Int)) := Lib.hid (by unfold modV; rw [if_pos hz, Int.toNat_natCast, hP])
    obtain ⟨hsh, hPle⟩ := pow_shift hm hP
    have HS := Lib.hid (fun (V : Nat) (W : World) (hV : V < 4096) (hb : Below w.heap.size w W) => xSat_any V l A k cap W hV (small_of hm hcl) (hR.below hb hb.size) (by omega))
    rw [hz] at HC ⊢
    generalize modV (m : Int) l = R at *
    have HSH := Lib.hid hsh
    clear hz hl hR hcl hP hsh
    go_enter Tryd.func10, Tryd.ntmps10
    go_wp2_with fail
    refine (HC.out).mono ?_
    rintro e w2 ⟨rfl, rfl⟩
    go_wp2
    rw [HSH.out]
    clear HSH
    go_loopw [7, 8, 17] (fun cv _ i wr => ∃ v : Nat, v ≤ P ∧ i = .int .i64 v ∧ cv = .int .i64 (cntS l v : Int) ∧ Hid (Below w.heap.size w wr)) (fun _ _ i _ => P - (intOf i).toNat)
    case atStart => exact ⟨0, Nat.zero_le _, rfl, rfl, Lib.hid (Below.refl _ _)⟩
    case round =>
      obtain ⟨v, hv, rfl, rfl, HO⟩ := hrel
      have hcv := cntS_le l v
      by_cases hlt : v < P
      · have HSV := Lib.hid (HS.out v wr (by omega) HO.out)
        have hsu : cntS l (v + 1) = cntS l v + if satB v l = true then 1 else 0 := rfl
        generalize hc1 : cntS l (v + 1) = c1 at *
        generalize cntS l v = c0 at *
        have HC1 := Lib.hid hc1
        clear hc1
        cases hq : satB v l with
        | true =>
          rw [hq, if_pos rfl] at hsu
          rw [hq] at HSV
          have HSU := Lib.hid hsu
          clear hsu hq
          go_wp2_with fail
          refine (HSV.out).mono ?_
          rintro e w2 ⟨rfl, hb⟩
          have HO2 := Lib.hid (HO.out.trans (hb.mono HO.out.size))
          clear hb
          go_wp2
          go_roundw
          case rel => exact ⟨v + 1, by omega, by go_num, by rw [HC1.out, HSU.out]; go_num, HO2⟩
          case measure => first | (simp [intOf]; done) | (simp [intOf]; omega)
        | false =>
          rw [hq, if_neg (by decide), Nat.add_zero] at hsu
          rw [hq] at HSV
          have HSU := Lib.hid hsu
          clear hsu hq
          go_wp2_with fail
          refine (HSV.out).mono ?_
          rintro e w2 ⟨rfl, hb⟩
          have HO2 := Lib.hid (HO.out.trans (hb.mono HO.out.size))
          clear hb
          go_wp2
          go_roundw
          case rel => exact ⟨v + 1, by omega, by go_num, by rw [HC1.out, HSU.out], HO2⟩
          case measure => first | (simp [intOf]; done) | (simp [intOf]; omega)
      · have hvp : v = P := by omega
        subst hvp
        go_wp2
        go_ret2
        exact ⟨ret_ii HV.out.symm rfl, HO.out⟩
  · have HV : Hid (modV n l = 0) := Lib.hid (by unfold modV; rw [if_neg hz])
    have q1 : (chkR n l != 0) = true := by rw [bne_iff_ne]; exact hz
    generalize modV n l = R at *
    clear hz hl hR
    generalize chkR n l = ee at *
    go_enter Tryd.func10, Tryd.ntmps10
    go_wp2_with fail
    refine (HC.out).mono ?_
    rintro e w2 ⟨rfl, rfl⟩
    go_wp2
    go_ret2
    exact ⟨ret_ii HV.out.symm rfl, Below.refl _ _⟩
set_option maxHeartbeats 2000000 in
theorem xSolve_any (n : Int) (l : List (List Int)) (A : Option Addr) (k cap : Nat) (w : World) (hR : ZsR w w.heap.size A k l) (hk : k ≤ maxLen) :
    Calls Tryd.prog 9 #[.int .i64 n, .slice A k cap] w (GivesII (slvV n l) (slvE n l) w) := by
  have HC := Lib.hid (xCheck_any n l A k cap w.heap.size w hR hk)
  have hl := hR.len
  by_cases hz : chkR n l = 0
  · obtain ⟨m, rfl, hm, hln, hcl⟩ := chkR_ok hz
    obtain ⟨P, hP⟩ : ∃ P : Nat, 2 ^ m = P := ⟨_, rfl⟩
    have HV : Hid (slvV (m : Int) l = match slvO l P with | some v => (v : Int) | none => 0) := Lib.hid (by unfold slvV; rw [if_pos hz, Int.toNat_natCast, hP])
    have HE : Hid (slvE (m : Int) l = match slvO l P with | some _ => 0 | none => 6) := Lib.hid (by unfold slvE; rw [if_pos hz, Int.toNat_natCast, hP])
    obtain ⟨hsh, hPle⟩ := pow_shift hm hP
    have HS := Lib.hid (fun (V : Nat) (W : World) (hV : V < 4096) (hb : Below w.heap.size w W) => xSat_any V l A k cap W hV (small_of hm hcl) (hR.below hb hb.size) (by omega))
    rw [hz] at HC
    generalize slvV (m : Int) l = R at *
    generalize slvE (m : Int) l = R2 at *
    have HSH := Lib.hid hsh
    clear hz hl hR hcl hP hsh
    go_enter Tryd.func9, Tryd.ntmps9
    go_wp2_with fail
    refine (HC.out).mono ?_
    rintro e w2 ⟨rfl, rfl⟩
    go_wp2
    rw [HSH.out]
    clear HSH
    go_loopw [7, 16] (fun _ i wr => ∃ v : Nat, v ≤ P ∧ i = .int .i64 v ∧ Hid (∀ u, u < v → satB u l = false) ∧ Hid (Below w.heap.size w wr)) (fun _ i _ => P - (intOf i).toNat)
    case atStart => exact ⟨0, Nat.zero_le _, rfl, Lib.hid (fun u hu => absurd hu (Nat.not_lt_zero _)), Lib.hid (Below.refl _ _)⟩
    case round =>
      obtain ⟨v, hv, rfl, HF, HO⟩ := hrel
      by_cases hlt : v < P
      · have HSV := Lib.hid (HS.out v wr (by omega) HO.out)
        cases hq : satB v l with
        | true =>
          rw [hq] at HSV
          have hso := slv_some hlt HF.out hq
          rw [hso] at HV HE
          clear hq hso
          go_wp2_with fail
          refine (HSV.out).mono ?_
          rintro e w2 ⟨rfl, hb⟩
          have HO2 := Lib.hid (HO.out.trans (hb.mono HO.out.size))
          clear hb
          go_wp2
          go_ret2
          exact ⟨ret_ii HV.out.symm HE.out.symm, HO2.out⟩
        | false =>
          rw [hq] at HSV
          have HF2 : Hid (∀ u, u < v + 1 → satB u l = false) := Lib.hid (fun u hu => by
            by_cases e : u = v
            · subst e; exact hq
            · exact HF.out u (by omega))
          clear hq
          go_wp2_with fail
          refine (HSV.out).mono ?_
          rintro e w2 ⟨rfl, hb⟩
          have HO2 := Lib.hid (HO.out.trans (hb.mono HO.out.size))
          clear hb
          go_wp2
          go_roundw
          case rel => exact ⟨v + 1, by omega, by go_num, HF2, HO2⟩
          case measure => first | (simp [intOf]; done) | (simp [intOf]; omega)
      · have hvp : v = P := by omega
        subst hvp
        rw [slv_none HF.out] at HV HE
        go_wp2
        go_ret2
        exact ⟨ret_ii HV.out.symm HE.out.symm, HO.out⟩
  · have HV : Hid (slvV n l = 0) := Lib.hid (by unfold slvV; rw [if_neg hz])
    have HE : Hid (slvE n l = chkR n l) := Lib.hid (by unfold slvE; rw [if_neg hz])
    have q1 : (chkR n l != 0) = true := by rw [bne_iff_ne]; exact hz
    generalize slvV n l = R at *
    generalize slvE n l = R2 at *
    clear hz hl hR
    generalize chkR n l = ee at *
    go_enter Tryd.func9, Tryd.ntmps9
    go_wp2_with fail
    refine (HC.out).mono ?_
    rintro e w2 ⟨rfl, rfl⟩
    go_wp2
    go_ret2
    exact ⟨ret_ii HV.out.symm HE.out.symm, Below.refl _ _⟩
end Go.Proofs.YtopkmcoblndokaaDoor.rsl
/- Layer 10: truth values of the variables in memory. -/
namespace Go.Proofs.YtopkmcoblndokaaDoor.rsl
open Go.RowKit Go.Proofs.Ws.rsl
set_option maxRecDepth 100000
/-- a box of truth values -/
def TB (W : World) (g : Nat) (t : List Int) : Prop := W.heap[g]? = some (.cells (ints t).toArray 65 (0, 0))
theorem TB.cell {W : World} {g : Nat} {t : List Int} (h : TB W g t) (k : Nat) (hk : k < t.length) : W.cell? ⟨g, k, none⟩ = some (.int .i64 (t.getD k 0)) := by
  rw [Lib.cell_of_heap h, List.getElem?_toArray]
  unfold ints
  rw [List.getElem?_map, List.getElem?_eq_getElem hk, List.getD_eq_getElem?_getD, List.getElem?_eq_getElem hk]
  rfl
theorem TB.free {W : World} {g : Nat} {t : List Int} (h : TB W g t) (k : Nat) : W.frozen? ⟨g, k, none⟩ = false := Lib.frozen_of_heap h k
theorem TB.lt {W : World} {g : Nat} {t : List Int} (h : TB W g t) : g < W.heap.size := (Array.getElem?_eq_some_iff.1 h).1
theorem TB.made (W : World) (t : List Int) : TB (W.alloc (.cells (ints t).toArray 65)) W.heap.size t := heap_alloc_new W _
theorem TB.alloc {W : World} {g : Nat} {t : List Int} (h : TB W g t) (o : Obj) : TB (W.alloc o) g t := (Below.heap_alloc W o g h.lt).trans h
theorem TB.below {W W' : World} {B g : Nat} {t : List Int} (h : TB W g t) (hb : Below B W W') (hg : g < B) : TB W' g t := (hb.block g hg).trans h
theorem TB.put {W : World} {g : Nat} {t : List Int} (h : TB W g t) (k : Nat) (x : Int) : TB (W.setCell ⟨g, k, none⟩ (.int .i64 x)) g (t.set k x) := by
  unfold TB at h ⊢
  have e : (ints (t.set k x)).toArray = (ints t).toArray.setIfInBounds k (.int .i64 x) := by
    unfold ints
    rw [List.map_set]
    simp
  rw [e]
  simp [World.setCell, Array.getElem?_modify, h]
theorem TB.far {W : World} {g g' : Nat} {t : List Int} (h : TB W g t) (hne : g ≠ g') (k : Nat) (u : Value) : TB (W.setCell ⟨g', k, none⟩ u) g t :=
  (Below.heap_setCell W ⟨g', k, none⟩ u g hne).trans h
theorem ints_one (t : List Int) : (ints t).toArray.all (·.oneCell') = true := by
  rw [Array.all_eq_true_iff_forall_mem]
  intro v hv
  have hv : v ∈ ints t := by simpa using hv
  unfold ints at hv
  obtain ⟨x, _, rfl⟩ := List.mem_map.1 hv
  rfl
theorem Tryd.infoT : (Tryd.prog.info? 65).map (·.size) = some 12 := by kernel_rfl
theorem ints_size (t : List Int) : (ints t).toArray.size = t.length := by simp [ints]
theorem TB.load {W : World} {g : Nat} {t : List Int} (h : TB W g t) (ht : t.length = 12) : (Instr.loadAt 65 (.pointer (some ⟨g, 0, none⟩))).run Tryd.prog W = .ok (.agg (ints t).toArray) W := by
  simp only [Instr.loadAt, Instr.sureAddr, Sem.run_bind, Sem.run_pure, Result.andThen]
  exact run_loadVar_row _ _ _ _ _ _ _ h Tryd.underlying65 rfl (by rw [ints_size, ht]; exact Tryd.infoT)
theorem below_setRow {B g : Nat} {w w1 : World} (h : Below B w w1) (hg : B ≤ g) (cs : Array Value) : Below B w (w1.setRow g cs) :=
  ⟨h.os, h.tape, h.output, by show w.heap.size ≤ (w1.heap.modify _ _).size; rw [Array.size_modify]; exact h.size, fun k hk => by rw [setRow_other _ _ _ _ (by omega)]; exact h.block k hk⟩
theorem xWith_any (t : List Int) (x : Int) (w : World) (ht : t.length = 12) (h0 : x ≠ 0) (h1 : -12 ≤ x) (h2 : x ≤ 12) :
    Calls Tryd.prog 54 #[.agg (ints t).toArray, .int .i64 x] w fun e w' => e = .returned (.agg (ints (tset t x)).toArray) ∧ Below w.heap.size w w' := by
  have HVAR := Lib.hid (fun W => xVar_any x W (by omega) (by omega))
  rw [varI_var h0] at HVAR
  have HW : Hid (tset t x = t.set (varOf x) x) := Lib.hid rfl
  have hj : varOf x ≤ 11 := by unfold varOf; omega
  generalize tset t x = t2 at *
  generalize varOf x = j at *
  have hm := (TB.made w t).alloc (.cells (ints t00).toArray 65)
  have hm2 := TB.made (w.alloc (.cells (ints t).toArray 65)) t00
  rw [show (w.alloc (.cells (ints t).toArray 65)).heap.size = w.heap.size + 1 by simp] at hm2
  have HM := Lib.hid hm
  have HM2 := Lib.hid hm2
  have HB : Hid (Below w.heap.size w ((w.alloc (.cells (ints t).toArray 65)).alloc (.cells (ints t00).toArray 65))) := Lib.hid (((Below.refl _ w).alloc (Nat.le_refl _) _).alloc (by simp) _)
  have HTL := Lib.hid ht
  clear hm hm2 h0 ht
  go_enter Tryd.func54, Tryd.ntmps54
  go_wp2_with fail
  refine (HVAR.out _).mono ?_
  rintro e w2 ⟨rfl, rfl⟩
  change Hid (TB ((w.alloc _).alloc (.cells #[.int .i64 0, .int .i64 0, .int .i64 0, .int .i64 0, .int .i64 0, .int .i64 0, .int .i64 0, .int .i64 0, .int .i64 0, .int .i64 0, .int .i64 0, .int .i64 0] _)) _ _) at HM
  change Hid (TB ((w.alloc _).alloc (.cells #[.int .i64 0, .int .i64 0, .int .i64 0, .int .i64 0, .int .i64 0, .int .i64 0, .int .i64 0, .int .i64 0, .int .i64 0, .int .i64 0, .int .i64 0, .int .i64 0] _)) _ _) at HM2
  change Hid (Below _ _ ((w.alloc _).alloc (.cells #[.int .i64 0, .int .i64 0, .int .i64 0, .int .i64 0, .int .i64 0, .int .i64 0, .int .i64 0, .int .i64 0, .int .i64 0, .int .i64 0, .int .i64 0, .int .i64 0] _))) at HB
  generalize ((w.alloc _).alloc (.cells #[.int .i64 0, .int .i64 0, .int .i64 0, .int .i64 0, .int .i64 0, .int .i64 0, .int .i64 0, .int .i64 0, .int .i64 0, .int .i64 0, .int .i64 0, .int .i64 0] _)) = w1 at *
  have hc := HM.out.cell j (by rw [HTL.out]; omega)
  have hf := HM.out.free j
  have HM3 := Lib.hid (HM.out.put j x)
  generalize hG : w.heap.size = G at *
  obtain ⟨cs2, hcs2⟩ : ∃ cs2, (ints (t.set j x)).toArray = cs2 := ⟨_, rfl⟩
  have hL3 : (w1.setCell ⟨G, j, none⟩ (.int .i64 x)).heap[G]? = some (.cells cs2 65 (0, 0)) := by rw [← hcs2]; exact HM3.out
  have hL4 : (w1.setCell ⟨G, j, none⟩ (.int .i64 x)).heap[G + 1]? = some (.cells (ints t00).toArray 65 (0, 0)) := HM2.out.far (by omega) _ _
  have hsz : cs2.size = 12 := by rw [← hcs2, ints_size, List.length_set]; exact HTL.out
  have hon : cs2.all (·.oneCell') = true := by rw [← hcs2]; exact ints_one _
  have hi2 : (Tryd.prog.info? 65).map (·.size) = some cs2.size := by rw [hsz]; exact Tryd.infoT
  have HL3 := Lib.hid hL3
  have HL4 := Lib.hid hL4
  have HSZ := Lib.hid hsz
  have HI2 := Lib.hid hi2
  have HON := Lib.hid hon
  have HCS := Lib.hid hcs2
  have HG := Lib.hid hG
  clear hL3 hL4 hsz hon hi2 hcs2 hG
  go_wp2_with (first
    | (refine wpList_load_row rfl 65 (.tmp 2) rfl G rfl _ _ _ _ HL3.out Tryd.underlying65 rfl HI2.out ?_; go_frame)
    | (refine wpList_store_row rfl 65 (.tmp 4) (.tmp 9) rfl (G + 1) cs2 rfl rfl _ _ HL4.out HI2.out (by rw [HSZ.out]; rfl) HON.out ?_; go_frame))
  refine bodyPost_ret (v := .agg cs2) (results_cell_row (p := 4) (ty := 65) rfl _ _ (G + 1) _ _ _ _ rfl (setRow_heap _ _ _ _ _ _ HL4.out) Tryd.underlying65 rfl HI2.out) rfl ?_
  exact ⟨by rw [HW.out, HCS.out], by rw [HG.out]; exact below_setRow (HB.out.setCell (Nat.le_refl _) _) (by omega) _⟩
end Go.Proofs.YtopkmcoblndokaaDoor.rsl
/- Layer 10: truth values of the variables: those of a clause, false clauses, units, by the program. -/
namespace Go.Proofs.YtopkmcoblndokaaDoor.rsl
open Go.RowKit Go.Proofs.Ws.rsl
set_option maxRecDepth 100000
/-- the size of a row of truth values -/
theorem sizeT {t : List Int} (h : t.length = 12) : (Tryd.prog.info? 65).map (·.size) = some (ints t).toArray.size := by rw [ints_size, h]; exact Tryd.infoT
theorem TB.setRow {W : World} {g : Nat} {t u : List Int} (h : TB W g t) : TB (W.setRow g (ints u).toArray) g u := setRow_heap _ _ _ _ _ _ h
theorem TB.farRow {W : World} {g g' : Nat} {t : List Int} (h : TB W g t) (hne : g ≠ g') (cs : Array Value) : TB (W.setRow g' cs) g t := (setRow_other _ _ _ _ hne).trans h
set_option maxHeartbeats 2000000 in
theorem xTruthsOf_any (c : List Int) (A : Option Addr) (k cap : Nat) (w : World) (hcl : ∀ x ∈ c, x ≠ 0 ∧ -12 ≤ x ∧ x ≤ 12) (hR : Reads w w.heap.size 1 A k (ints c)) (hk : k ≤ 1000000) :
    Calls Tryd.prog 28 #[.slice A k cap] w fun e w' => e = .returned (.agg (ints (tsetL t00 c)).toArray) ∧ Below w.heap.size w w' := by
  have HL := Lib.hid hR.int_len
  have HR := Lib.hid hR
  have HC := Lib.hid hcl
  have HM := Lib.hid ((TB.made w t00).alloc (.cells (ints t00).toArray 65))
  have hm2 := TB.made (w.alloc (.cells (ints t00).toArray 65)) t00
  rw [show (w.alloc (.cells (ints t00).toArray 65)).heap.size = w.heap.size + 1 by simp] at hm2
  have HM2 := Lib.hid hm2
  have HB : Hid (Below w.heap.size w ((w.alloc (.cells (ints t00).toArray 65)).alloc (.cells (ints t00).toArray 65))) := Lib.hid (((Below.refl _ w).alloc (Nat.le_refl _) _).alloc (by simp) _)
  clear hR hcl hm2
  go_enter Tryd.func28, Tryd.ntmps28
  go_wp2
  change Hid (TB ((w.alloc (.cells #[.int .i64 0, .int .i64 0, .int .i64 0, .int .i64 0, .int .i64 0, .int .i64 0, .int .i64 0, .int .i64 0, .int .i64 0, .int .i64 0, .int .i64 0, .int .i64 0] _)).alloc (.cells #[.int .i64 0, .int .i64 0, .int .i64 0, .int .i64 0, .int .i64 0, .int .i64 0, .int .i64 0, .int .i64 0, .int .i64 0, .int .i64 0, .int .i64 0, .int .i64 0] _)) _ _) at HM
  change Hid (TB ((w.alloc (.cells #[.int .i64 0, .int .i64 0, .int .i64 0, .int .i64 0, .int .i64 0, .int .i64 0, .int .i64 0, .int .i64 0, .int .i64 0, .int .i64 0, .int .i64 0, .int .i64 0] _)).alloc (.cells #[.int .i64 0, .int .i64 0, .int .i64 0, .int .i64 0, .int .i64 0, .int .i64 0, .int .i64 0, .int .i64 0, .int .i64 0, .int .i64 0, .int .i64 0, .int .i64 0] _)) _ _) at HM2
  change Hid (Below _ _ ((w.alloc (.cells #[.int .i64 0, .int .i64 0, .int .i64 0, .int .i64 0, .int .i64 0, .int .i64 0, .int .i64 0, .int .i64 0, .int .i64 0, .int .i64 0, .int .i64 0, .int .i64 0] _)).alloc (.cells #[.int .i64 0, .int .i64 0, .int .i64 0, .int .i64 0, .int .i64 0, .int .i64 0, .int .i64 0, .int .i64 0, .int .i64 0, .int .i64 0, .int .i64 0, .int .i64 0] _))) at HB
  generalize ((w.alloc (.cells #[.int .i64 0, .int .i64 0, .int .i64 0, .int .i64 0, .int .i64 0, .int .i64 0, .int .i64 0, .int .i64 0, .int .i64 0, .int .i64 0, .int .i64 0, .int .i64 0] _)).alloc (.cells #[.int .i64 0, .int .i64 0, .int .i64 0, .int .i64 0, .int .i64 0, .int .i64 0, .int .i64 0, .int .i64 0, .int .i64 0, .int .i64 0, .int .i64 0, .int .i64 0] _)) = w1 at *
  generalize hG : w.heap.size = G at *
  have HG := Lib.hid hG
  clear hG
  go_loopw [5, 8] (fun _ i wr => ∃ (j : Nat) (t : List Int), j ≤ k ∧ i = .int .i64 j ∧ Hid (t.length = 12) ∧ Hid (tsetL t00 c = tsetL t (c.drop j)) ∧ Hid (TB wr G t00) ∧ Hid (TB wr (G + 1) t) ∧ Hid (Below G w wr)) (fun _ i _ => k - (intOf i).toNat)
  case atStart => exact ⟨0, t00, Nat.zero_le _, rfl, Lib.hid rfl, Lib.hid rfl, HM, HM2, HB⟩
  case round =>
    obtain ⟨j, t, hj, rfl, HT, HI, HM3, HM4, HO⟩ := hrel
    have HSZ := Lib.hid (sizeT HT.out)
    by_cases hlt : j < k
    · obtain ⟨ad, rfl, _, hcj⟩ := (HR.out.below HO.out).int_at hlt
      have HD := Lib.hid (drop_getD c j (by have := HL.out; omega))
      have hx := HC.out _ (getD_mem0 (l := c) (k := j) (by have := HL.out; omega))
      generalize c.getD j 0 = x at *
      have HWI := Lib.hid (fun W => xWith_any t x W HT.out hx.1 hx.2.1 hx.2.2)
      have HT2 : Hid ((tset t x).length = 12) := Lib.hid (by rw [tset_len]; exact HT.out)
      have HI2 : Hid (tsetL t00 c = tsetL (tset t x) (c.drop (j + 1))) := Lib.hid (by rw [HI.out, HD.out]; rfl)
      generalize tset t x = t2 at *
      clear hx
      go_wp2_with (first
        | (refine wpList_load_row rfl 65 (.tmp 3) rfl (G + 1) rfl _ _ _ _ HM4.out Tryd.underlying65 rfl HSZ.out ?_; go_frame)
        | (go_at_call 54; refine (HWI.out _).mono ?_; rintro e w2 ⟨rfl, hb⟩; have HO2 := Lib.hid (HO.out.trans (hb.mono (Nat.le_of_lt HM3.out.lt))); have HM5 := Lib.hid (HM3.out.below hb HM3.out.lt); have HM6 := Lib.hid (HM4.out.below hb HM4.out.lt); clear hb hcj)
        | (refine wpList_store_row rfl 65 (.tmp 3) (.tmp 14) rfl (G + 1) (ints t2).toArray rfl rfl _ _ HM6.out (sizeT HT2.out) (by rw [ints_size, ints_size, HT.out, HT2.out]) (ints_one _) ?_; go_frame))
      go_roundw
      case rel => exact ⟨j + 1, t2, by omega, by go_num, HT2, HI2, Lib.hid (HM5.out.farRow (by omega) _), Lib.hid HM6.out.setRow, Lib.hid (below_setRow HO2.out (by omega) _)⟩
      case measure => first | (simp [intOf]; done) | (simp [intOf]; omega)
    · have HE : Hid (tsetL t00 c = t) := Lib.hid (by rw [HI.out, List.drop_eq_nil_of_le (by have := HL.out; omega)]; rfl)
      go_wp2_with (first
        | (refine wpList_load_row rfl 65 (.tmp 3) rfl (G + 1) rfl _ _ _ _ HM4.out Tryd.underlying65 rfl HSZ.out ?_; go_frame)
        | (refine wpList_store_row rfl 65 (.tmp 2) (.tmp 16) rfl G (ints t).toArray rfl rfl _ _ HM3.out HSZ.out (by rw [ints_size, ints_size, HT.out]; rfl) (ints_one _) ?_; go_frame))
      refine bodyPost_ret (v := .agg (ints t).toArray) (results_cell_row (p := 2) (ty := 65) rfl _ _ G _ _ _ _ rfl (setRow_heap _ _ _ _ _ _ HM3.out) Tryd.underlying65 rfl HSZ.out) rfl ?_
      exact ⟨by rw [HE.out], by rw [HG.out]; exact below_setRow HO.out (Nat.le_refl _) _⟩
theorem varOf_le {x : Int} (h1 : -12 ≤ x) (h2 : x ≤ 12) : varOf x ≤ 11 := by unfold varOf; omega
/-- the number at a row of truth values is an int of Go -/
def SmT (t : List Int) : Prop := ∀ j, -12 ≤ t.getD j 0 ∧ t.getD j 0 ≤ 12
theorem SmT.zero : SmT t00 := fun j => by
  unfold t00
  rw [List.getD_eq_getElem?_getD, List.getElem?_replicate]
  split <;> simp
theorem SmT.set {t : List Int} (h : SmT t) {x : Int} (h1 : -12 ≤ x) (h2 : x ≤ 12) : SmT (tset t x) := fun j => by
  unfold tset
  rw [List.getD_eq_getElem?_getD, List.getElem?_set]
  split
  · split
    · exact ⟨h1, h2⟩
    · simp
  · rw [← List.getD_eq_getElem?_getD]; exact h j
set_option maxHeartbeats 2000000 in
theorem xRefutes_any (t c : List Int) (A : Option Addr) (k cap : Nat) (w : World) (ht : t.length = 12) (hcl : ∀ x ∈ c, x ≠ 0 ∧ -12 ≤ x ∧ x ≤ 12) (hR : Reads w w.heap.size 1 A k (ints c)) (hk : k ≤ 1000000) :
    Calls Tryd.prog 50 #[.agg (ints t).toArray, .slice A k cap] w fun e w' => e = .returned (.bool (refB t c)) ∧ Below w.heap.size w w' := by
  have HL := Lib.hid hR.int_len
  have HR := Lib.hid hR
  have HC := Lib.hid hcl
  have HM := Lib.hid (TB.made w t)
  have HB : Hid (Below w.heap.size w (w.alloc (.cells (ints t).toArray 65))) := Lib.hid ((Below.refl _ w).alloc (Nat.le_refl _) _)
  have HI0 : Hid (refB t c = (c.drop 0).all (fun x => tget t x == -x)) := Lib.hid rfl
  generalize refB t c = rb at *
  clear hR hcl
  go_enter Tryd.func50, Tryd.ntmps50
  go_wp2
  generalize (w.alloc (.cells (ints t).toArray 65)) = w1 at *
  generalize hG : w.heap.size = G at *
  have HG := Lib.hid hG
  have HT := Lib.hid ht
  clear hG ht
  go_loopw [6, 9] (fun _ i wr => ∃ j : Nat, j ≤ k ∧ i = .int .i64 j ∧ Hid (rb = (c.drop j).all (fun x => tget t x == -x)) ∧ w1 = wr) (fun _ i _ => k - (intOf i).toNat)
  case atStart => exact ⟨0, Nat.zero_le _, rfl, HI0, by first | rfl | trivial⟩
  case round =>
    obtain ⟨j, hj, rfl, HI, rfl⟩ := hrel
    by_cases hlt : j < k
    · obtain ⟨ad, rfl, _, hcj⟩ := (HR.out.below HB.out).int_at hlt
      have HD := Lib.hid (drop_getD c j (by have := HL.out; omega))
      have hx := HC.out _ (getD_mem0 (l := c) (k := j) (by have := HL.out; omega))
      generalize c.getD j 0 = x at *
      obtain ⟨x0, x1, x2⟩ := hx
      have HVAR := Lib.hid (fun W => xVar_any x W (by omega) (by omega))
      rw [varI_var x0] at HVAR
      have hv := varOf_le x1 x2
      have hcell := HM.out.cell (varOf x) (by rw [HT.out]; omega)
      have hq : ∀ b, (tget t x == -x) = b → Hid ((t.getD (varOf x) 0 != -x) = !b) := fun b h => Lib.hid (by rw [← h]; rfl)
      have HQ := Lib.hid hq
      have HTG : Hid (rb = ((tget t x == -x) && (c.drop (j + 1)).all (fun x => tget t x == -x))) := Lib.hid (by rw [HI.out, HD.out, List.all_cons])
      clear hq HI HD x0
      generalize varOf x = v at *
      generalize t.getD v 0 = y at *
      generalize (tget t x == -x) = b at *
      cases b with
      | true =>
        have hq := (HQ.out true rfl).out
        rw [Bool.not_true] at hq
        have HI2 : Hid (rb = (c.drop (j + 1)).all (fun x => tget t x == -x)) := Lib.hid (by rw [HTG.out, Bool.true_and])
        clear HQ HTG
        go_wp2_with (first
          | (go_at_call 47; refine (HVAR.out _).mono ?_; rintro e w2 ⟨rfl, rfl⟩)
          | fail)
        go_roundw
        case rel => exact ⟨j + 1, by omega, by go_num, HI2, by first | rfl | trivial⟩
        case measure => first | (simp [intOf]; done) | (simp [intOf]; omega)
      | false =>
        have hq := (HQ.out false rfl).out
        rw [Bool.not_false] at hq
        have HE : Hid (rb = false) := Lib.hid (by rw [HTG.out, Bool.false_and])
        clear HQ HTG
        go_wp2_with (first
          | (go_at_call 47; refine (HVAR.out _).mono ?_; rintro e w2 ⟨rfl, rfl⟩)
          | fail)
        go_ret
        exact ⟨ret_bool HE.out.symm, by rw [HG.out]; exact HB.out⟩
    · have HE : Hid (rb = true) := Lib.hid (by rw [HI.out, List.drop_eq_nil_of_le (by have := HL.out; omega)]; rfl)
      go_wp2
      go_ret
      exact ⟨ret_bool HE.out.symm, by rw [HG.out]; exact HB.out⟩
theorem unitGo_cons (t : List Int) (o x : Int) (c : List Int) : unitGo t o (x :: c) = if tget t x = -x then unitGo t o c else if tget t x = x then 0 else if o ≠ 0 then 0 else unitGo t x c := rfl
set_option maxHeartbeats 4000000 in
theorem xUnit_any (t c : List Int) (A : Option Addr) (k cap : Nat) (w : World) (ht : t.length = 12) (hcl : ∀ x ∈ c, x ≠ 0 ∧ -12 ≤ x ∧ x ≤ 12) (hR : Reads w w.heap.size 1 A k (ints c)) (hk : k ≤ 1000000) :
    Calls Tryd.prog 53 #[.agg (ints t).toArray, .slice A k cap] w fun e w' => e = .returned (.int .i64 (unitV t c)) ∧ Below w.heap.size w w' := by
  have HL := Lib.hid hR.int_len
  have HR := Lib.hid hR
  have HC := Lib.hid hcl
  have HM := Lib.hid (TB.made w t)
  have HB : Hid (Below w.heap.size w (w.alloc (.cells (ints t).toArray 65))) := Lib.hid ((Below.refl _ w).alloc (Nat.le_refl _) _)
  have HI0 : Hid (unitV t c = unitGo t 0 (c.drop 0)) := Lib.hid rfl
  generalize unitV t c = uv at *
  clear hR hcl
  go_enter Tryd.func53, Tryd.ntmps53
  go_wp2
  generalize (w.alloc (.cells (ints t).toArray 65)) = w1 at *
  generalize hG : w.heap.size = G at *
  have HG := Lib.hid hG
  have HT := Lib.hid ht
  clear hG ht
  go_loopw [5, 7, 10] (fun ov _ i wr => ∃ (j : Nat) (p : Int), j ≤ k ∧ i = .int .i64 j ∧ ov = .int .i64 p ∧ Hid (uv = unitGo t p (c.drop j)) ∧ w1 = wr) (fun _ _ i _ => k - (intOf i).toNat)
  case atStart => exact ⟨0, 0, Nat.zero_le _, rfl, rfl, HI0, by first | rfl | trivial⟩
  case round =>
    obtain ⟨j, p, hj, rfl, rfl, HI, rfl⟩ := hrel
    by_cases hlt : j < k
    · obtain ⟨ad, rfl, _, hcj⟩ := (HR.out.below HB.out).int_at hlt
      have HD := Lib.hid (drop_getD c j (by have := HL.out; omega))
      have hx := HC.out _ (getD_mem0 (l := c) (k := j) (by have := HL.out; omega))
      generalize c.getD j 0 = x at *
      obtain ⟨x0, x1, x2⟩ := hx
      have HVAR := Lib.hid (fun W => xVar_any x W (by omega) (by omega))
      rw [varI_var x0] at HVAR
      have hv := varOf_le x1 x2
      have hcell := HM.out.cell (varOf x) (by rw [HT.out]; omega)
      have HTG : Hid (uv = if t.getD (varOf x) 0 = -x then unitGo t p (c.drop (j + 1)) else if t.getD (varOf x) 0 = x then 0 else if p ≠ 0 then 0 else unitGo t x (c.drop (j + 1))) := Lib.hid (by rw [HI.out, HD.out, unitGo_cons]; rfl)
      clear HI HD x0
      generalize varOf x = v at *
      generalize t.getD v 0 = y at *
      by_cases h1 : y = -x
      · have q1 : (y == -x) = true := by simp [h1]
        have HI2 : Hid (uv = unitGo t p (c.drop (j + 1))) := Lib.hid (by rw [HTG.out, if_pos h1])
        clear h1 HTG
        go_wp2_with (first
          | (go_at_call 47; refine (HVAR.out _).mono ?_; rintro e w2 ⟨rfl, rfl⟩)
          | fail)
        go_roundw
        case rel => exact ⟨j + 1, p, by omega, by go_num, rfl, HI2, by first | rfl | trivial⟩
        case measure => first | (simp [intOf]; done) | (simp [intOf]; omega)
      · have q1 : (y == -x) = false := by simp [h1]
        by_cases h2 : y = x
        · have q2 : (y == x) = true := by simp [h2]
          have HE : Hid (uv = 0) := Lib.hid (by rw [HTG.out, if_neg h1, if_pos h2])
          clear h1 h2 HTG
          go_wp2_with (first
            | (go_at_call 47; refine (HVAR.out _).mono ?_; rintro e w2 ⟨rfl, rfl⟩)
            | fail)
          go_ret
          exact ⟨ret_i64 HE.out.symm, by rw [HG.out]; exact HB.out⟩
        · have q2 : (y == x) = false := by simp [h2]
          by_cases h3 : p = 0
          · have q3 : (p != 0) = false := by simp [h3]
            have HI2 : Hid (uv = unitGo t x (c.drop (j + 1))) := Lib.hid (by rw [HTG.out, if_neg h1, if_neg h2, if_neg (fun h => h h3)])
            clear h1 h2 h3 HTG
            go_wp2_with (first
              | (go_at_call 47; refine (HVAR.out _).mono ?_; rintro e w2 ⟨rfl, rfl⟩)
              | fail)
            go_roundw
            case rel => exact ⟨j + 1, x, by omega, by go_num, rfl, HI2, by first | rfl | trivial⟩
            case measure => first | (simp [intOf]; done) | (simp [intOf]; omega)
          · have q3 : (p != 0) = true := by simp [h3]
            have HE : Hid (uv = 0) := Lib.hid (by rw [HTG.out, if_neg h1, if_neg h2, if_pos h3])
            clear h1 h2 h3 HTG
            go_wp2_with (first
              | (go_at_call 47; refine (HVAR.out _).mono ?_; rintro e w2 ⟨rfl, rfl⟩)
              | fail)
            go_ret
            exact ⟨ret_i64 HE.out.symm, by rw [HG.out]; exact HB.out⟩
    · have HE : Hid (uv = p) := Lib.hid (by rw [HI.out, List.drop_eq_nil_of_le (by have := HL.out; omega)]; rfl)
      go_wp2
      go_ret
      exact ⟨ret_i64 HE.out.symm, by rw [HG.out]; exact HB.out⟩
end Go.Proofs.YtopkmcoblndokaaDoor.rsl
