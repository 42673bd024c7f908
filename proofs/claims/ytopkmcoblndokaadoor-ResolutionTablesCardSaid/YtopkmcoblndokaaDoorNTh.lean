/- Layer 6: texts joined: UOl UOm. -/
import Derived.Test.YtopkmcoblndokaaDoorNTg
import Derived.Shelf.SlSortCmp.Whole1
import Derived.Shelf.SlSortCmp.NoneTotal
import Derived.Shelf.Slices.CompactI
import Derived.Shelf.Lay
import Derived.Ground.SlsfProg
/- Layer 10: the order of literals, the library's sort and Compact. -/
namespace Go.Proofs.Ws.rsl
open Go
def cmpI (a b : Int) : Int := if a < b then -1 else if b < a then 1 else 0
def firstNZ : List Int → Int
  | [] => 0
  | x :: l => if x ≠ 0 then x else firstNZ l
theorem firstNZ_at (l : List Int) (k : Nat) (h : k < l.length) : firstNZ (l.drop k) = if l.getD k 0 ≠ 0 then l.getD k 0 else firstNZ (l.drop (k + 1)) := by
  rw [List.drop_eq_getElem_cons h, show l.getD k 0 = l[k] from by simp [h]]
  rfl
end Go.Proofs.Ws.rsl
namespace Go.Proofs
open Go.Shelf
shelf_lay_g SlLaysF.n6 Slsf 6 at Tryd 32 as Tryd.sortZ
shelf_lay Lays2.n20 Nm2 20 at Tryd as Tryd.compZ
end Go.Proofs
namespace Go.Proofs.YtopkmcoblndokaaDoor.rsl
open Go.RowKit Go.Proofs.Ws.rsl Go.Sort
set_option maxRecDepth 100000
theorem isNaN_any (a : Int) (w : World) : Calls Tryd.prog 85 #[.int .i64 a] w fun e w' => e = .returned (.bool false) ∧ w = w' := by
  have h : (a != a) = false := by simp
  go_enter Tryd.func85, Tryd.ntmps85
  go_wp2
  go_ret
  exact ⟨by simp, rfl⟩
theorem cmpInt_any (a b : Int) (w : World) : Calls Tryd.prog 61 #[.int .i64 a, .int .i64 b] w fun e w' => e = .returned (.int .i64 (cmpI a b)) ∧ w = w' := by
  have H1 := Lib.hid (fun W => isNaN_any a W)
  have H2 := Lib.hid (fun W => isNaN_any b W)
  rcases Int.lt_trichotomy a b with h | h | h
  · have e : cmpI a b = -1 := by unfold cmpI; rw [if_pos h]
    rw [e]
    have d1 : decide (a < b) = true := decide_eq_true h
    clear h e
    go_enter Tryd.func61, Tryd.ntmps61
    go_wp2_with fail
    refine (H1.out _).mono ?_
    rintro e w1 ⟨rfl, rfl⟩
    go_wp2_with fail
    refine (H2.out _).mono ?_
    rintro e w1 ⟨rfl, rfl⟩
    go_wp2
    go_ret
    exact ⟨rfl, rfl⟩
  · subst h
    have e : cmpI a a = 0 := by unfold cmpI; rw [if_neg (by omega), if_neg (by omega)]
    rw [e]
    have d1 : decide (a < a) = false := decide_eq_false (by omega)
    clear e
    go_enter Tryd.func61, Tryd.ntmps61
    go_wp2_with fail
    refine (H1.out _).mono ?_
    rintro e w1 ⟨rfl, rfl⟩
    go_wp2_with fail
    refine (H2.out _).mono ?_
    rintro e w1 ⟨rfl, rfl⟩
    go_wp2
    go_ret
    exact ⟨rfl, rfl⟩
  · have e : cmpI a b = 1 := by unfold cmpI; rw [if_neg (by omega), if_pos h]
    rw [e]
    have d1 : decide (a < b) = false := decide_eq_false (by omega)
    have d2 : decide (b < a) = true := decide_eq_true h
    clear h e
    go_enter Tryd.func61, Tryd.ntmps61
    go_wp2_with fail
    refine (H1.out _).mono ?_
    rintro e w1 ⟨rfl, rfl⟩
    go_wp2_with fail
    refine (H2.out _).mono ?_
    rintro e w1 ⟨rfl, rfl⟩
    go_wp2
    go_ret
    exact ⟨rfl, rfl⟩
theorem or_any (l : List Int) (A : Option Addr) (n c : Nat) (w : World) (hR : Reads w w.heap.size 1 A n (ints l)) (hm : n ≤ maxLen) :
    Calls Tryd.prog 60 #[.slice A n c] w fun e w' => e = .returned (.int .i64 (firstNZ l)) ∧ w = w' := by
  unfold maxLen at hm
  have HL := Lib.hid hR.int_len
  have HR := Lib.hid hR
  clear hR
  go_enter Tryd.func60, Tryd.ntmps60
  go_wp2
  go_loopw [5, 8] (fun u i wr => ∃ k : Nat, k ≤ n ∧ i = .int .i64 k ∧ Hid (firstNZ l = firstNZ (l.drop k)) ∧ wr = w) (fun _ i _ => n - (intOf i).toNat)
  case atStart => exact ⟨0, Nat.zero_le _, rfl, Lib.hid rfl, rfl⟩
  case round =>
    obtain ⟨k, hk, rfl, HI, rfl⟩ := hrel
    by_cases hlt : k < n
    · obtain ⟨ad, rfl, _, hc⟩ := HR.out.int_at hlt
      have HA := Lib.hid (firstNZ_at l k (by have := HL.out; omega))
      generalize l.getD k 0 = z at *
      by_cases hz : z = 0
      · subst hz
        have HI2 := Lib.hid (HI.out.trans (HA.out.trans (if_neg (by simp))))
        clear HI HA
        go_wp2
        go_roundw
        case rel => exact ⟨k + 1, by omega, by go_num, HI2, by first | rfl | trivial⟩
        case measure => simp [intOf]; omega
      · have HI2 := Lib.hid (HI.out.trans (HA.out.trans (if_pos hz)))
        have hz1 : (z != 0) = true := by simpa using hz
        clear HI HA hz
        go_wp2
        go_ret
        exact ⟨ret_i64 HI2.out.symm, rfl⟩
    · have HI2 : Hid (firstNZ l = 0) := Lib.hid (by rw [HI.out, List.drop_of_length_le (by have := HL.out; omega)]; rfl)
      clear HI
      go_wp2
      go_ret
      exact ⟨ret_i64 HI2.out.symm, rfl⟩

/-- a small number, whatever comes -/
def clI (x : Int) : Int := if -12 ≤ x ∧ x ≤ 12 then x else 1
theorem clI_b (x : Int) : -12 ≤ clI x ∧ clI x ≤ 12 := by unfold clI; split <;> omega
def encL (x : Int) : Value := .int .i64 (clI x)
def cfL (a b : Int) : Int := firstNZ [cmpI (varI (clI a)) (varI (clI b)), cmpI (clI a) (clI b)]
theorem lt_cl (x y : Int) : ltOf cfL x y = decide (lLt (clI x) (clI y)) := by
  unfold ltOf cfL
  have h : ∀ a b : Int, cmpI a b = if a < b then -1 else if b < a then 1 else 0 := fun a b => rfl
  have hf : ∀ a b : Int, firstNZ [a, b] = if a ≠ 0 then a else if b ≠ 0 then b else 0 := fun a b => rfl
  rw [hf, h, h]
  congr 1
  apply propext
  unfold lLt
  generalize varI (clI x) = a
  generalize varI (clI y) = b
  generalize clI x = c
  generalize clI y = d
  by_cases h1 : a < b
  · simp [h1]
  · by_cases h2 : b < a
    · simp [h1, h2]; omega
    · have h3 : a = b := by omega
      subst h3
      by_cases h4 : c < d
      · simp [h4]
      · by_cases h5 : d < c
        · simp [h4, h5]
        · simp [h4, h5]
theorem swo_cl : SWO (ltOf cfL) where
  irrefl x := by rw [lt_cl]; exact decide_eq_false (lLt_irrefl _)
  trans x y z h1 h2 := by
    rw [lt_cl] at *
    exact decide_eq_true (lLt_trans (of_decide_eq_true h1) (of_decide_eq_true h2))
  ntrans x y z h1 h2 := by
    rw [lt_cl] at *
    have k1 := of_decide_eq_false h1
    have k2 := of_decide_eq_false h2
    refine decide_eq_false (fun h => ?_)
    unfold lLt at *
    omega
set_option maxHeartbeats 1000000 in
theorem xCmp_any (a b : Int) (w : World) (ha : -12 ≤ a ∧ a ≤ 12) (hb : -12 ≤ b ∧ b ≤ 12) :
    Calls Tryd.prog 33 #[.int .i64 a, .int .i64 b] w fun e w' => e = .returned (.int .i64 (firstNZ [cmpI (varI a) (varI b), cmpI a b])) ∧ ∃ q os', w' = Go.Sort.grow (w.drewN q) os' := by
  have HA := Lib.hid (fun W => xVar_any a W (by omega) (by omega))
  have HB := Lib.hid (fun W => xVar_any b W (by omega) (by omega))
  have HC := Lib.hid (fun p q W => cmpInt_any p q W)
  have HO : Hid (∀ (W : World) (p0 p1 : Int), Calls Tryd.prog 60 #[.slice (some ⟨W.heap.size, 0, none⟩) 2 2] (W.alloc (.cells #[.int .i64 p0, .int .i64 p1] 3)) fun e w' => e = .returned (.int .i64 (firstNZ [p0, p1])) ∧ (W.alloc (.cells #[.int .i64 p0, .int .i64 p1] 3)) = w') := Lib.hid (fun W p0 p1 => by
    have hh : HoldsI (W.alloc (.cells (ints [p0, p1]).toArray 3)) W.heap.size [p0, p1] := HoldsI.made W _
    exact or_any [p0, p1] _ 2 2 _ hh.reads (by decide))
  clear ha hb
  go_enter Tryd.func33, Tryd.ntmps33
  go_wp2_with fail
  refine (HA.out _).mono ?_
  rintro e w1 ⟨rfl, rfl⟩
  go_wp2_with fail
  refine (HB.out _).mono ?_
  rintro e w1 ⟨rfl, rfl⟩
  go_wp2_with fail
  refine (HC.out _ _ _).mono ?_
  rintro e w1 ⟨rfl, rfl⟩
  go_wp2_with fail
  refine (HC.out _ _ _).mono ?_
  rintro e w1 ⟨rfl, rfl⟩
  go_wp2_with fail
  refine (HO.out _ _ _).mono ?_
  rintro e w1 ⟨rfl, rfl⟩
  go_wp2
  go_ret
  exact ⟨rfl, 0, #[_], by rw [Go.Sort.alloc_eq_grow]; rfl⟩
theorem cmpLaysL (blk off size : Nat) (w : World) : CmpLays1 Tryd.prog 33 #[] encL cfL blk off size w := fun _ _ _ _ x y => xCmp_any (clI x) (clI y) _ (clI_b x) (clI_b y)
theorem holdsJ_of {w : World} {g : Nat} {L : List Int} {cur : Array Value} (h : w.heap[g]? = some (.cells cur 3 (0, 0))) (ht : cur.toList.take L.length = ints L) : HoldsJ w g L := by
  refine ⟨cur.toList.drop L.length, ?_⟩
  rw [h, ← ht, List.take_append_drop]
theorem heap_put {enc : Int → Value} {w : World} {g : Nat} {cur : Array Value} {e : TypeId} {fr : Nat × Nat} (d : Array Int) (hb : w.heap[g]? = some (.cells cur e fr)) :
    (putRow enc w g 0 d).heap[g]? = some (.cells (putCells enc 0 d cur) e fr) := by
  simp [putRow, mapBlock, Array.getElem?_modify, hb, onCells]
theorem below_put {enc : Int → Value} {w : World} {g : Nat} (d : Array Int) : Below g w (putRow enc w g 0 d) := by
  refine ⟨rfl, rfl, rfl, by simp, fun k hk => ?_⟩
  have : g ≠ k := by omega
  simp [putRow, mapBlock, Array.getElem?_modify, this]
theorem take_put {enc : Int → Value} (cur : Array Value) (l : List Int) (he : ∀ x ∈ l, enc x = .int .i64 x) (h : l.length ≤ cur.size) : (putCells enc 0 l.toArray cur).toList.take l.length = ints l := by
  apply List.ext_getElem?
  intro j
  by_cases hj : j < l.length
  · rw [List.getElem?_take_of_lt hj, Array.getElem?_toList]
    unfold ints
    have := he l[j] (List.getElem_mem hj)
    simp [putCells, hj, show j < cur.size by omega, this]
  · rw [List.getElem?_take_eq_none (by omega), List.getElem?_eq_none (by rw [ints_length]; omega)]
theorem HoldsJ.put_ {enc : Int → Value} {w : World} {g : Nat} {c l : List Int} (h : HoldsJ w g c) (hl : l.length ≤ c.length) (he : ∀ x ∈ l, enc x = .int .i64 x) : HoldsJ (putRow enc w g 0 l.toArray) g l := by
  obtain ⟨pad, h⟩ := h
  exact holdsJ_of (heap_put _ h) (take_put _ l he (by rw [List.size_toArray, List.length_append, ints_length]; omega))
theorem HoldsJ.ahead {w : World} {g : Nat} {l : List Int} (h : HoldsJ w g l) (n : Nat) : HoldsJ (Sort.ahead w n) g l := h
theorem below_ahead (g : Nat) (w : World) (n : Nat) : Below g w (Sort.ahead w n) := ⟨rfl, rfl, rfl, Nat.le_refl _, fun _ _ => rfl⟩
theorem HoldsJ.grow {w : World} {g : Nat} {l : List Int} (h : HoldsJ w g l) (os : Array Obj) : HoldsJ (Go.Sort.grow w os) g l := by
  have hl := h.lt
  obtain ⟨pad, h⟩ := h
  exact ⟨pad, by rw [heap_grow_old _ _ hl]; exact h⟩
theorem below_grow {g : Nat} {w : World} (os : Array Obj) (hg : g ≤ w.heap.size) : Below g w (Go.Sort.grow w os) :=
  ⟨rfl, rfl, rfl, by simp [Go.Sort.grow], fun k hk => heap_grow_old _ _ (by omega)⟩
theorem HoldsJ.holds {w : World} {g : Nat} {c : List Int} (h : HoldsJ w g c) (enc : Int → Value) (he : ∀ x ∈ c, enc x = .int .i64 x) : Holds enc w g 0 c.toArray := by
  intro j hj
  have hj : j < c.length := by simpa using hj
  refine ⟨?_, h.free _⟩
  rw [Nat.zero_add, h.cell j hj]
  have e1 : c.getD j 0 = c[j] := by rw [List.getD_eq_getElem?_getD, List.getElem?_eq_getElem hj]; rfl
  have e2 : c.toArray[j]! = c[j] := by rw [getElem!_pos _ j (by simpa using hj)]; simp
  rw [e1, e2, he _ (List.getElem_mem hj)]
/-- sorting and striking what is twice: the normal form -/
theorem sort_nrm {c : List Int} {d : Array Int} (hc : Lits c) (hp : PermIn 0 c.toArray.size c.toArray d) (hs : SortedIn (ltOf cfL) 0 c.toArray.size d) : (∀ x, x ∈ d.toList ↔ x ∈ c) ∧ d.toList.length = c.length ∧ Lib.compactUpTo d d.size = nrm c := by
  obtain ⟨hsz, _, hperm⟩ := hp
  have hsz2 : d.size = c.length := by simpa using hsz
  have hpm : d.toList.Perm c := by
    have : (d.extract 0 c.toArray.size).toList = d.toList := by simp [← hsz2]
    rw [this] at hperm
    simpa using hperm
  have hcl : ∀ j, j < d.size → clI d[j]! = d[j]! := fun j hj => by
    have hm : d[j]! ∈ c := by
      rw [getElem!_pos d j hj]
      exact hpm.mem_iff.1 (Array.mem_toList_iff.2 (Array.getElem_mem hj))
    have := hc _ hm
    unfold clI
    rw [if_pos ⟨this.2.1, this.2.2⟩]
  refine ⟨fun x => hpm.mem_iff, by simpa using hsz2, nrm_unique hc (compact_lt d (fun i j hij hj => ?_)) (fun x => ⟨fun h => hpm.mem_iff.1 (compact_sub d d.size (Nat.le_refl _) x h), fun h => ?_⟩)⟩
  · have h1 := hs i j (Nat.zero_le _) hij (by simpa [hsz2] using hj)
    rw [lt_cl, hcl i (by omega), hcl j hj] at h1
    exact of_decide_eq_false h1
  · obtain ⟨j, hj, rfl⟩ := List.getElem_of_mem (hpm.mem_iff.2 h)
    have hj2 : j < d.size := by simpa using hj
    have := compact_mem d d.size (Nat.le_refl _) j hj2
    rw [getElem!_pos d j hj2] at this
    simpa using this
theorem encL_of {c : List Int} (hc : Lits c) : ∀ x ∈ c, encL x = .int .i64 x := fun x hx => by
  unfold encL clI
  have := hc x hx
  rw [if_pos ⟨this.2.1, this.2.2⟩]
set_option maxHeartbeats 1000000 in
theorem sortL_any (c : List Int) (g cap : Nat) (w : World) (hB : HoldsJ w g c) (hc : Lits c) (hl : c.length ≤ 64) :
    Calls Tryd.prog 32 #[.slice (some ⟨g, 0, none⟩) c.length cap, .func (.func 33) #[] #[]] w fun e w' => e = .returned (.tuple #[]) ∧ ∃ d : Array Int, (∀ x, x ∈ d.toList ↔ x ∈ c) ∧ d.toList.length = c.length ∧ Lib.compactUpTo d d.size = nrm c ∧ HoldsJ w' g d.toList ∧ Below g w w' := by
  have eg : ∀ args w, (callFunc 33 args).run Tryd.prog w = .ok (.enter 33 args) w := enters_of Tryd.func33 (by kernel_rfl) rfl
  have hcon := Any.slices_SortFunc Tryd.sortZ encL (fun _ => rfl) cfL swo_cl 33 #[] g 0 cap c.toArray w eg (cmpLaysL g 0 c.toArray.size w) (hB.holds encL (encL_of hc)) hB.lt (by simp; omega)
  change Calls Tryd.prog 32 _ _ _ at hcon
  refine hcon.mono ?_
  rintro e w' ⟨rfl, d', n, os, hp, hs, rfl⟩
  obtain ⟨k1, k2, k3⟩ := sort_nrm hc hp hs
  refine ⟨rfl, d', k1, k2, k3, ?_, ?_⟩
  · unfold sortWorld
    refine HoldsJ.grow ?_ os
    have := (hB.ahead n).put_ (enc := encL) (l := d'.toList) (by omega) (fun x hx => encL_of hc x ((k1 x).1 hx))
    simpa using this
  · unfold sortWorld
    have h1 := (below_ahead g w n).trans (below_put (enc := encL) (w := Sort.ahead w n) (g := g) d')
    exact h1.trans (below_grow os (by have := hB.lt; have := h1.size; omega))
set_option maxHeartbeats 1000000 in
theorem compL_any (d : Array Int) (g cap : Nat) (w : World) (hB : HoldsJ w g d.toList) (hl : d.size ≤ 64) (hcap : d.size ≤ cap) :
    Calls Tryd.prog 34 #[.slice (some ⟨g, 0, none⟩) d.size cap] w fun e w' => e = .returned (.slice (some ⟨g, 0, none⟩) (Lib.compactUpTo d d.size).length cap) ∧ (Lib.compactUpTo d d.size).length ≤ d.size ∧ HoldsJ w' g (Lib.compactUpTo d d.size) ∧ Below g w w' := by
  have hcon := Any.slices_Compact_int_arr Tryd.compZ g 0 cap d w (by have := hB.holds (Value.int .i64) (fun _ _ => rfl); simpa using this) (by omega) hcap
  change Calls Tryd.prog 34 _ _ _ at hcon
  refine hcon.mono ?_
  rintro e w' ⟨rfl, q, rfl⟩
  have hle : (Lib.compactUpTo d d.size).length ≤ d.size := by
    unfold Lib.compactUpTo
    rw [List.length_map]
    exact Nat.le_trans (List.length_filter_le _ _) (by simp)
  refine ⟨rfl, hle, ?_, (below_ahead g w q).trans (below_put _)⟩
  have := ((hB.ahead q).put_ (enc := Value.int .i64) (l := Lib.compactUpTo d d.size ++ List.replicate (d.size - (Lib.compactUpTo d d.size).length) 0) (by have h7 : d.toList.length = d.size := Array.length_toList; rw [List.length_append, List.length_replicate, h7]; omega) (fun _ _ => rfl)).cut (Lib.compactUpTo d d.size).length
  rwa [List.take_left] at this
end Go.Proofs.YtopkmcoblndokaaDoor.rsl
/- Layer 10: Normal, Propagate, by the program. -/
namespace Go.Proofs.YtopkmcoblndokaaDoor.rsl
open Go.RowKit Go.Proofs.Ws.rsl
set_option maxRecDepth 100000
/-- a list, a truth value, an error -/
def GivesN (L : List Int) (b : Bool) (E : Int) (w : World) (e : Ending) (w' : World) : Prop := ∃ A c, e = .returned (.tuple #[.slice A L.length c, .bool b, .int .i64 E]) ∧ OwJ w' w.heap.size A L ∧ L.length ≤ c ∧ Below w.heap.size w w'
theorem OwJ.nil (W : World) (base : Nat) (A : Option Addr) : OwJ W base A [] := fun h => absurd h (by decide)
theorem nE_two {c : List Int} (h : ¬ 64 < c.length) {x : Int} (hx : x ∈ c) (hl : litB 12 x = false) : nE c = 2 := by
  unfold nE
  rw [if_neg h, if_neg]
  intro h2
  have := List.all_eq_true.1 h2 x hx
  rw [hl] at this; cases this
theorem nE_okk {c : List Int} (h : ¬ 64 < c.length) (hl : ∀ x ∈ c, litB 12 x = true) : nE c = 0 := by
  unfold nE
  rw [if_neg h, if_pos (List.all_eq_true.2 hl)]
theorem norm_bad {c : List Int} {e : Int} (h : nE c = e) (h0 : e ≠ 0) : nL c = [] ∧ nA c = false := by
  unfold nL nA
  rw [h]
  exact ⟨if_neg (fun k => h0 k.1), by rw [decide_eq_false h0]; rfl⟩
set_option maxHeartbeats 8000000 in
theorem xNormal_any (c : List Int) (A : Option Addr) (k cap : Nat) (w : World) (hR : Reads w w.heap.size 1 A k (ints c)) (hk : k ≤ maxLen) :
    Calls Tryd.prog 14 #[.slice A k cap] w (GivesN (nL c) (nA c) (nE c) w) := by
  unfold maxLen at hk
  have hl := hR.int_len
  have HL := Lib.hid hl
  have HR := Lib.hid hR
  by_cases h64 : 64 < k
  · have HE : Hid (nE c = 8) := Lib.hid (by unfold nE; rw [if_pos (by omega)])
    have HB := Lib.hid (norm_bad HE.out (by decide))
    have q0 : decide ((64 : Int) < (k : Int)) = true := decide_eq_true (by omega)
    clear hl hR h64
    go_enter Tryd.func14, Tryd.ntmps14
    go_wp2
    go_ret3
    exact ⟨none, 0, by rw [HB.out.1, HB.out.2, HE.out]; rfl, by rw [HB.out.1]; exact OwJ.nil _ _ _, by rw [HB.out.1]; exact Nat.le_refl _, Below.refl _ _⟩
  · have q0 : decide ((64 : Int) < (k : Int)) = false := decide_eq_false (by omega)
    have hk64 : k ≤ 64 := by omega
    have H64 : Hid (¬ 64 < c.length) := Lib.hid (by omega)
    have HLI := Lib.hid (fun x W => xLit_any 12 x W (by decide) (by decide))
    clear hl hR h64 hk
    go_enter Tryd.func14, Tryd.ntmps14
    go_wp2
    go_loopw [6, 14] (fun _ i wr => ∃ j : Nat, j ≤ k ∧ i = .int .i64 j ∧ Hid (∀ i, i < j → litB 12 (c.getD i 0) = true) ∧ w = wr) (fun _ i _ => k - (intOf i).toNat)
    case atStart => exact ⟨0, Nat.zero_le _, rfl, Lib.hid (fun i hi => absurd hi (Nat.not_lt_zero _)), by first | rfl | trivial⟩
    case round =>
      obtain ⟨j, hj, rfl, HI, rfl⟩ := hrel
      by_cases hlt : j < k
      · obtain ⟨ad, rfl, hb, hc⟩ := HR.out.int_at hlt
        have HM := Lib.hid (getD_mem0 (l := c) (k := j) (by have := HL.out; omega))
        cases hq : litB 12 (c.getD j 0) with
        | true =>
          have HI2 : Hid (∀ i, i < j + 1 → litB 12 (c.getD i 0) = true) := Lib.hid (fun i hi => by
            by_cases e : i = j
            · rw [e]; exact hq
            · exact HI.out i (by omega))
          have HC := Lib.hid (HLI.out (c.getD j 0))
          rw [hq] at HC
          clear hq HI HM
          generalize c.getD j 0 = x at *
          go_wp2_with fail
          refine (HC.out _).mono ?_
          rintro e w2 ⟨rfl, rfl⟩
          go_wp2
          go_roundw
          case rel => exact ⟨j + 1, by omega, by go_num, HI2, by first | rfl | trivial⟩
          case measure => first | (simp [intOf]; done) | (simp [intOf]; omega)
        | false =>
          have HE : Hid (nE c = 2) := Lib.hid (nE_two H64.out HM.out hq)
          have HB := Lib.hid (norm_bad HE.out (by decide))
          have HC := Lib.hid (HLI.out (c.getD j 0))
          rw [hq] at HC
          clear hq HI HM
          generalize c.getD j 0 = x at *
          go_wp2_with fail
          refine (HC.out _).mono ?_
          rintro e w2 ⟨rfl, rfl⟩
          go_wp2
          go_ret3
          exact ⟨none, 0, by rw [HB.out.1, HB.out.2, HE.out]; rfl, by rw [HB.out.1]; exact OwJ.nil _ _ _, by rw [HB.out.1]; exact Nat.le_refl _, Below.refl _ _⟩
      · have hjk : j = k := by omega
        subst hjk
        have HE : Hid (nE c = 0) := Lib.hid (nE_okk H64.out (fun x hx => by
          obtain ⟨i, hi, rfl⟩ := List.getElem_of_mem hx
          have := HI.out i (by have := HL.out; omega)
          rwa [List.getD_eq_getElem?_getD, List.getElem?_eq_getElem hi] at this))
        have HLT := Lib.hid (nE_zero HE.out).2
        have HAD := Lib.hid (alw_adj (K := nrm c) (fun x hx => (HLT.out x ((nrm_mem HLT.out x).1 hx)).1) (nrm_sorted c))
        have HAL : Hid (alwB (nrm c) = alwB c) := Lib.hid (alw_congr (nrm_mem HLT.out))
        have HNL : Hid (alwB c = false → nL c = nrm c) := Lib.hid (fun h => by unfold nL; rw [if_pos ⟨HE.out, h⟩])
        have HNN : Hid (alwB c = true → nL c = []) := Lib.hid (fun h => by unfold nL; rw [if_neg (fun k => by rw [h] at k; cases k.2)])
        have HNA : Hid (nA c = alwB c) := Lib.hid (by unfold nA; rw [HE.out]; rfl)
        have HNB : Hid (Lits (nrm c)) := Lib.hid (fun x hx => HLT.out x ((nrm_mem HLT.out x).1 hx))
        have HNS := Lib.hid (nrm_len c)
        have HCL := Lib.hid (cloneI_any c A j cap w HR.out hk64)
        clear HI hlt
        go_wp2_with fail
        refine (HCL.out).mono ?_
        rintro e w2 ⟨A2, c2, rfl, hc2, hx2, hb2⟩
        by_cases h0 : 0 < j
        · obtain ⟨g, rfl, hg, hJ⟩ := hx2 h0
          have HS := Lib.hid (sortL_any c g c2 w2 hJ HLT.out (by have := HL.out; omega))
          rw [HL.out] at HS
          have HB2 := Lib.hid hb2
          have HG := Lib.hid hg
          clear hx2 hb2 hg hJ
          go_wp2_with fail
          refine (HS.out).mono ?_
          rintro e w3 ⟨rfl, d, hd1, hd2, hd3, hJ3, hb3⟩
          have hds : d.size = j := by rw [← hd2]; exact (Array.length_toList).symm
          have HC := Lib.hid (compL_any d g c2 w3 hJ3 (by omega) (by omega))
          rw [hds, ← hds, hd3, hds] at HC
          have HB3 := Lib.hid (HB2.out.trans (hb3.mono HG.out))
          clear hd1 hd2 hd3 hJ3 hb3 hds
          go_wp2_with fail
          refine (HC.out).mono ?_
          rintro e w4 ⟨rfl, hle4, hJ4, hb4⟩
          have HJ4 := Lib.hid hJ4
          have HB4 := Lib.hid (HB3.out.trans (hb4.mono HG.out))
          clear hJ4 hb4
          obtain ⟨K, hK⟩ : ∃ K, nrm c = K := ⟨_, rfl⟩
          rw [hK] at HAD HAL HNL HNB HNS HJ4
          rw [hK]
          clear HC HS
          obtain ⟨m, hm⟩ : ∃ m, K.length = m := ⟨_, rfl⟩
          rw [hm] at HNS
          rw [hK, hm] at hle4
          have hmc : m ≤ c2 := by omega
          clear hK hle4
          rw [hm]
          have HKL := Lib.hid hm
          have hm24 := HNS.out
          clear hm
          have hmi : ∀ n : Int, n = (m : Int) - 1 → True := fun _ _ => trivial
          clear hmi
          go_wp2
          go_loopw [8, 31] (fun _ i wr => ∃ p : Nat, (p : Int) ≤ (m : Int) ∧ i = .int .i64 p ∧ Hid (∀ i, i < p → i + 1 < m → K.getD i 0 ≠ -K.getD (i + 1) 0) ∧ Hid (Below w.heap.size w wr ∧ HoldsJ wr g K)) (fun _ i _ => m - (intOf i).toNat)
          case atStart => exact ⟨0, by omega, rfl, Lib.hid (fun i hi => absurd hi (Nat.not_lt_zero _)), Lib.hid ⟨HB4.out, HJ4.out⟩⟩
          case round =>
            obtain ⟨p, hp, rfl, HI, HO⟩ := hrel
            by_cases hlt : p + 1 < m
            · have d0 := HO.out.2.cell p (by have := HKL.out; omega)
              have d1 := HO.out.2.cell (p + 1) (by have := HKL.out; omega)
              have hb0 := HNB.out _ (getD_mem0 (l := K) (k := p) (by have := HKL.out; omega))
              have hb1 := HNB.out _ (getD_mem0 (l := K) (k := p + 1) (by have := HKL.out; omega))
              have HAI : Hid (K.getD p 0 = -K.getD (p + 1) 0 → alwB c = true) := Lib.hid (fun h => by rw [← HAL.out]; exact HAD.out.2 ⟨p, by have := HKL.out; omega, h⟩)
              have HI2 : Hid (K.getD p 0 ≠ -K.getD (p + 1) 0 → ∀ i, i < p + 1 → i + 1 < m → K.getD i 0 ≠ -K.getD (i + 1) 0) := Lib.hid (fun h i hi hi2 => by
                by_cases e : i = p
                · rw [e]; exact h
                · exact HI.out i (by omega) hi2)
              clear HI
              generalize K.getD p 0 = x at *
              generalize K.getD (p + 1) 0 = y at *
              obtain ⟨_, y1, y2⟩ := hb1
              clear hb0
              by_cases hxy : x = -y
              · have q1 : (x == -y) = true := by simp [hxy]
                have HAT := Lib.hid (HAI.out hxy)
                clear hxy HI2
                go_wp2
                go_quiet (fail)
                go_wp2
                go_ret3
                exact ⟨none, 0, by rw [HNN.out HAT.out, HNA.out, HAT.out, HE.out]; rfl, by rw [HNN.out HAT.out]; exact OwJ.nil _ _ _, by rw [HNN.out HAT.out]; exact Nat.le_refl _, below_drewN HO.out.1 _⟩
              · have q1 : (x == -y) = false := by simp [hxy]
                have HI3 := Lib.hid (HI2.out hxy)
                clear hxy HI2
                go_wp2
                go_quiet (fail)
                go_wp2
                go_roundw
                case rel => exact ⟨p + 1, by omega, by go_num, HI3, Lib.hid ⟨below_drewN HO.out.1 _, HO.out.2⟩⟩
                case measure => first | (simp [intOf]; done) | (simp [intOf]; omega)
            · have HAF : Hid (alwB c = false) := Lib.hid (by
                rw [← HAL.out]
                cases h : alwB K with
                | false => rfl
                | true =>
                  obtain ⟨i, hi, he⟩ := HAD.out.1 h
                  exact absurd he (HI.out i (by have := HKL.out; omega) (by have := HKL.out; omega)))
              go_wp2
              go_ret3
              refine ⟨some ⟨g, 0, none⟩, c2, by rw [HNL.out HAF.out, HNA.out, HAF.out, HE.out, HKL.out]; rfl, ?_, by rw [HNL.out HAF.out, HKL.out]; omega, HO.out.1⟩
              rw [HNL.out HAF.out]
              exact fun _ => ⟨g, rfl, HG.out, HO.out.2⟩
        · have hj0 : j = 0 := by omega
          subst hj0
          have hc0 : c = [] := List.length_eq_zero_iff.1 HL.out
          subst hc0
          have HB2 := Lib.hid hb2
          have HF1 : Hid (nL [] = []) := Lib.hid (by unfold nL; rw [if_pos ⟨rfl, rfl⟩]; decide)
          have HF2 : Hid (nA [] = false) := Lib.hid (by unfold nA; rfl)
          have HS := Lib.hid (AnyF.slices_SortFunc_none (P := Tryd.prog) { Tryd.sortZ with } A2 c2 (.func (.func 33) #[] #[]) w2)
          have HC := Lib.hid (Any.slices_Compact_int_empty Tryd.compZ A2 c2 w2)
          change Hid (Calls Tryd.prog 32 _ _ _) at HS
          change Hid (Calls Tryd.prog 34 _ _ _) at HC
          clear hx2 hb2 HAD HAL HNL HNN HNA HNB HNS hc2
          go_wp2_with fail
          refine (HS.out).mono ?_
          rintro e w3 ⟨rfl, rfl⟩
          go_wp2_with fail
          refine (HC.out).mono ?_
          rintro e w4 ⟨rfl, rfl⟩
          go_wp2
          go_loopw [8, 31] (fun _ i wr => i = .int .i64 0 ∧ wr = w4) (fun _ _ _ => 0)
          case atStart => exact ⟨rfl, rfl⟩
          case round =>
            obtain ⟨rfl, rfl⟩ := hrel
            go_wp2
            go_ret3
            exact ⟨A2, c2, by rw [HF1.out, HF2.out, HE.out]; rfl, by rw [HF1.out]; exact OwJ.nil _ _ _, Nat.zero_le _, HB2.out⟩
/-- what propagation returns -/
def ppE (n : Int) (l : List (List Int)) (fx : List Int) : Int := if chkR n l = 0 then (if clE n fx = 0 then 0 else 1) else chkR n l
def GivesP (n : Int) (l : List (List Int)) (fx : List Int) (w : World) (e : Ending) (w' : World) : Prop :=
  ∃ A c L i, e = .returned (.tuple #[.slice A L.length c, .int .i64 i, .int .i64 (ppE n l fx)]) ∧ OwJ w' w.heap.size A L ∧ (ppE n l fx ≠ 0 → L = [] ∧ i = 0) ∧ (ppE n l fx = 0 → ∃ u, PropTo l (tsetL t00 fx) u i ∧ L = litsT u) ∧ Below w.heap.size w w'
theorem clOk_small {n : Nat} {c : List Int} (hn : n ≤ 12) (h : ClOk n c) : (∀ x ∈ c, x ≠ 0 ∧ -12 ≤ x ∧ x ≤ 12) ∧ c.length ≤ 12 := ⟨fun x hx => by have := h.lits x hx; omega, by have := h.len; omega⟩
set_option maxHeartbeats 4000000 in
theorem xPropagate_any (n : Int) (l : List (List Int)) (fx : List Int) (A : Option Addr) (k cap : Nat) (A2 : Option Addr) (k2 cap2 : Nat) (w : World) (hR : ZsR w w.heap.size A k l) (hk : k ≤ maxLen) (hR2 : Reads w w.heap.size 1 A2 k2 (ints fx)) (hk2 : k2 ≤ maxLen) :
    Calls Tryd.prog 11 #[.int .i64 n, .slice A k cap, .slice A2 k2 cap2] w (GivesP n l fx w) := by
  have HC := Lib.hid (xCheck_any n l A k cap w.heap.size w hR hk)
  by_cases hz : chkR n l = 0
  · obtain ⟨m, rfl, hm, hln, hcl⟩ := chkR_ok hz
    have HC2 := Lib.hid (xClause_any m fx A2 k2 cap2 w.heap.size w (by omega) (by omega) hR2 hk2)
    have hl := hR.len
    rw [hz] at HC
    by_cases hy : clE (m : Int) fx = 0
    · have hfx := clOk_small hm (clE_ok.1 hy)
      have HE : Hid (ppE (m : Int) l fx = 0) := Lib.hid (by unfold ppE; rw [if_pos hz, if_pos hy])
      rw [hy] at HC2
      have HT := Lib.hid (xTruthsOf_any fx A2 k2 cap2 w hfx.1 hR2 (by have := hR2.int_len; omega))
      have HP := Lib.hid (fun W (hw : Below w.heap.size w W) => xPropagateL_any (tsetL t00 fx) l A k cap W TOk.zero.setL (small_of hm hcl) (hR.below hw hw.size) (by omega))
      clear hz hy hfx hR hR2 hcl hl
      go_enter Tryd.func11, Tryd.ntmps11
      go_wp2_with fail
      refine (HC.out).mono ?_
      rintro e w2 ⟨rfl, rfl⟩
      go_wp2_with fail
      refine (HC2.out).mono ?_
      rintro e w2 ⟨rfl, rfl⟩
      go_wp2_with fail
      refine (HT.out).mono ?_
      rintro e w2 ⟨rfl, hb⟩
      have HB := Lib.hid hb
      clear hb
      go_wp2_with fail
      refine (HP.out _ HB.out).mono ?_
      rintro e w3 ⟨⟨A9, c9, u, i, rfl, hj, hp⟩, hb3⟩
      have HJ := Lib.hid (hj.mono HB.out.size)
      have HPP := Lib.hid hp
      have HB3 := Lib.hid (HB.out.trans (hb3.mono HB.out.size))
      clear hj hp hb3
      go_wp2
      go_ret3
      exact ⟨A9, c9, litsT u, i, by rw [HE.out]; rfl, HJ.out, fun h => absurd HE.out h, fun _ => ⟨u, HPP.out, rfl⟩, HB3.out⟩
    · have HE : Hid (ppE (m : Int) l fx = 1) := Lib.hid (by unfold ppE; rw [if_pos hz, if_neg hy])
      have q1 : (clE (m : Int) fx != 0) = true := by rw [bne_iff_ne]; exact hy
      clear hz hy hR hR2 hcl
      generalize clE (m : Int) fx = e2 at *
      go_enter Tryd.func11, Tryd.ntmps11
      go_wp2_with fail
      refine (HC.out).mono ?_
      rintro e w2 ⟨rfl, rfl⟩
      go_wp2_with fail
      refine (HC2.out).mono ?_
      rintro e w2 ⟨rfl, rfl⟩
      go_wp2
      go_ret3
      exact ⟨none, 0, [], 0, by rw [HE.out]; rfl, OwJ.nil _ _ _, fun _ => ⟨rfl, rfl⟩, fun h => absurd (HE.out.symm.trans h) (by decide), Below.refl _ _⟩
  · have HE : Hid (ppE n l fx = chkR n l) := Lib.hid (by unfold ppE; rw [if_neg hz])
    have q1 : (chkR n l != 0) = true := by rw [bne_iff_ne]; exact hz
    have HZ := Lib.hid hz
    clear hz hR hR2
    generalize chkR n l = ee at *
    go_enter Tryd.func11, Tryd.ntmps11
    go_wp2_with fail
    refine (HC.out).mono ?_
    rintro e w2 ⟨rfl, rfl⟩
    go_wp2
    go_ret3
    exact ⟨none, 0, [], 0, by rw [HE.out]; rfl, OwJ.nil _ _ _, fun _ => ⟨rfl, rfl⟩, fun h => absurd (HE.out.symm.trans h) HZ.out, Below.refl _ _⟩
end Go.Proofs.YtopkmcoblndokaaDoor.rsl
