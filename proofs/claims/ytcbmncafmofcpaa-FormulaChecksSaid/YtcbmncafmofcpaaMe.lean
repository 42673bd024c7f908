/- Layer 5: Depth of the program. -/
import Derived.Test.YtcbmncafmofcpaaMa
namespace Go.Proofs.Ws
open Go
def modalOp (op : Int) : Bool := (decide (9 ≤ op) && decide (op ≤ 15)) || (decide (18 ≤ op) && decide (op ≤ 21))
/-- the depths of the first nodes, by the list of the depths so far -/
def depStep (ds : List Int) (n : Nd) : Int := max (ds.getD n.x.toNat 0) (ds.getD n.y.toNat 0) + (if modalOp n.op = true then 1 else 0)
def depL : List Nd → List Int → List Int
  | [], ds => ds
  | n :: l, ds => depL l (ds ++ [depStep ds n])
def depF (f : List Nd) : Int := if fErr f = 0 then (depL (compF f) []).getLastD 0 else -1
end Go.Proofs.Ws
namespace Go.Proofs.Ytcbmncafmofcpaa
open Go.RowKit Go.Proofs.Ws Go.Maps
theorem isModal_any (op : Int) (hk : known op = true) (w : World) : Calls Try.prog 55 #[.int .i64 op] w fun e w' => e = .returned (.bool (modalOp op)) ∧ w = w' := by
  rcases known_cases op hk with rfl | rfl | rfl | rfl | rfl | rfl | rfl | rfl | rfl | rfl | rfl | rfl | rfl | rfl | rfl | rfl | rfl | rfl | rfl | rfl | rfl
  all_goals
    go_enter Try.func55, Try.ntmps55
    go_wp2
    go_ret
    exact ⟨rfl, rfl⟩
/-- block g holds just these numbers -/
def DS (W : World) (g : Nat) (l : List Int) : Prop := W.heap[g]? = some (.cells (is l).toArray 3 (0, 0))
theorem DS.cell {W : World} {g : Nat} {l : List Int} (h : DS W g l) {k : Nat} (hk : k < l.length) : W.cell? ⟨g, k, none⟩ = some (.int .i64 (l.getD k 0)) := by
  rw [Lib.cell_of_heap h]
  simp [is, hk]
theorem DS.free {W : World} {g : Nat} {l : List Int} (h : DS W g l) (k : Nat) : W.frozen? ⟨g, k, none⟩ = false := Lib.frozen_of_heap h k
theorem DS.put {W : World} {g : Nat} {l : List Int} (h : DS W g l) (k : Nat) (x : Int) : DS (W.setCell ⟨g, k, none⟩ (.int .i64 x)) g (l.set k x) := by
  unfold DS at h ⊢
  have e : (is (l.set k x)).toArray = (is l).toArray.setIfInBounds k (.int .i64 x) := by
    unfold is
    rw [List.map_set]
    simp
  rw [e]
  simp [World.setCell, Array.getElem?_modify, h]
theorem DS.keep {W W' : World} {g : Nat} {l : List Int} (h : DS W g l) (hb : W'.heap[g]? = W.heap[g]?) : DS W' g l := hb.trans h
theorem zeros_is (n : Nat) : zeros n = (is (List.replicate n 0)).toArray := by
  apply Array.ext
  · simp [zeros, is]
  · intro i h1 h2
    simp [zeros, is]
/-- the depths after k rounds -/
def dpL (q : List Nd) (k : Nat) : List Int := depL (q.take k) []
theorem depL_app (a : List Nd) (n : Nd) (ds : List Int) : depL (a ++ [n]) ds = depL a ds ++ [depStep (depL a ds) n] := by
  induction a generalizing ds with
  | nil => rfl
  | cons b a ih => exact ih _
theorem depL_len (a : List Nd) (ds : List Int) : (depL a ds).length = ds.length + a.length := by
  induction a generalizing ds with
  | nil => rfl
  | cons b a ih =>
    show (depL a (ds ++ [depStep ds b])).length = _
    rw [ih]; simp; omega
theorem dpL_succ (q : List Nd) (k : Nat) (h : k < q.length) : dpL q (k + 1) = dpL q k ++ [depStep (dpL q k) (q.getD k nd0)] := by
  unfold dpL
  rw [List.take_succ_eq_append_getElem h, depL_app, show q.getD k nd0 = q[k] from by simp [h]]
theorem dpL_len (q : List Nd) (k : Nat) (h : k ≤ q.length) : (dpL q k).length = k := by
  unfold dpL
  rw [depL_len, List.length_take]; simp; omega
theorem dep_range (q : List Nd) : ∀ k, k ≤ q.length → ∀ j, 0 ≤ (dpL q k).getD j 0 ∧ (dpL q k).getD j 0 ≤ k := by
  intro k
  induction k with
  | zero => intro _ j; show 0 ≤ ([] : List Int).getD j 0 ∧ _; simp [dpL, depL]
  | succ k ih =>
    intro h j
    have hl := dpL_len q k (by omega)
    rw [dpL_succ q k (by omega)]
    by_cases e : j < k
    · rw [List.getD_eq_getElem?_getD, List.getElem?_append_left (by omega), ← List.getD_eq_getElem?_getD]
      have := ih (by omega) j
      omega
    · by_cases e2 : j = k
      · subst e2
        rw [List.getD_eq_getElem?_getD, List.getElem?_append_right (by omega), hl]
        simp only [Nat.sub_self, List.getElem?_cons_zero, Option.getD_some]
        have h1 := ih (by omega) (q.getD j nd0).x.toNat
        have h2 := ih (by omega) (q.getD j nd0).y.toNat
        unfold depStep
        split <;> omega
      · rw [List.getD_eq_getElem?_getD, List.getElem?_eq_none (by simp; omega)]
        simp
        omega
theorem pad_getD (ds : List Int) (m j : Nat) : (ds ++ List.replicate m 0).getD j 0 = ds.getD j 0 := by
  by_cases h : j < ds.length
  · rw [List.getD_eq_getElem?_getD, List.getElem?_append_left h, ← List.getD_eq_getElem?_getD]
  · rw [List.getD_eq_getElem?_getD, List.getElem?_append_right (by omega), List.getElem?_replicate, List.getD_eq_getElem?_getD, List.getElem?_eq_none (by omega)]
    split <;> rfl
theorem pad_set (ds : List Int) (m : Nat) (x : Int) : (ds ++ List.replicate (m + 1) 0).set ds.length x = (ds ++ [x]) ++ List.replicate m 0 := by
  rw [List.replicate_succ]
  simp
set_option maxRecDepth 100000 in
set_option maxHeartbeats 4000000 in
theorem pDepth_any (f : List Nd) (A : Option Addr) (n c : Nat) (w : World) (hR : Reads w w.heap.size 6 A n (nds f)) (hm : n ≤ maxLen) :
    Calls Try.prog 14 #[.slice A n c] w fun e w' => e = .returned (.int .i64 (depF f)) ∧ Below w.heap.size w w' := by
  have hl := hR.nd_len
  have HV := Lib.hid (pValid_any f A n c w hR hm)
  have HR := Lib.hid hR
  by_cases hz : fErr f = 0
  · have h200 := (fErr_ok hz).2.1
    have e1 : compF f = canonF f := by unfold compF; rw [if_pos hz]
    have hE : depF f = (dpL (canonF f) (canonF f).length).getLastD 0 := by unfold depF dpL; rw [if_pos hz, e1, List.take_length]
    have hok := compF_ok hz
    rw [e1] at hok
    have hqo := fErr_ops hok
    have hqk := fErr_known hok
    have hq2 := (fErr_ok hok).2.1
    have hqne : (canonF f).length ≠ 0 := by simpa using (fErr_ok hok).1
    have HC : Hid (∀ W, Reads W W.heap.size 6 A n (nds f) → Calls Try.prog 54 #[.slice A n c] W fun e w' => ∃ A' c', e = .returned (.slice A' (canonF f).length c') ∧ Reads w' w'.heap.size 6 A' (canonF f).length (nds (canonF f)) ∧ Below W.heap.size W w') :=
      Lib.hid (fun W h => pCanon_any f (OkL_of hz) A n c W h (by omega))
    rw [hE]
    rw [hz] at HV
    clear hE hok e1
    generalize canonF f = q at *
    have HQO := Lib.hid hqo
    have HQK := Lib.hid hqk
    have hmk := fun W => makeI W q.length (by omega)
    clear hR hl hz h200 hqo hqk
    go_enter Try.func14, Try.ntmps14
    go_wp2_with fail
    refine (HV.out).mono ?_
    rintro e w1 ⟨rfl, hb⟩
    have HB := Lib.hid hb
    have hR1 := (HR.out.below hb).more hb.size
    clear hb
    go_wp2_with fail
    refine (HC.out w1 hR1).mono ?_
    rintro e w2 ⟨A3, c3, rfl, hR2, hb2⟩
    have HR2 := Lib.hid hR2
    have HB2 := Lib.hid (HB.out.trans (hb2.mono HB.out.size))
    clear hR2 hb2 hR1
    go_wp2
    have HDS : Hid (DS (w2.alloc (.cells (zeros q.length) 3)) w2.heap.size (dpL q 0 ++ List.replicate q.length 0)) := Lib.hid (by
      have := heap_alloc_new w2 (.cells (zeros q.length) 3)
      unfold DS
      rw [this, zeros_is]; rfl)
    have HBa : Hid (Below w2.heap.size w2 (w2.alloc (.cells (zeros q.length) 3))) := Lib.hid ((Below.refl _ w2).alloc (Nat.le_refl _) _)
    have hga : w2.heap.size < (w2.alloc (.cells (zeros q.length) 3)).heap.size := by simp
    clear hmk
    generalize w2.alloc (.cells (zeros q.length) 3) = w3 at *
    generalize hG : w2.heap.size = G at *
    have HG := Lib.hid hG
    clear hG
    go_loopw [5, 6, 17] (fun u1 u2 i wr => ∃ k : Nat, k ≤ q.length ∧ i = .int .i64 k ∧ Hid (DS wr G (dpL q k ++ List.replicate (q.length - k) 0)) ∧ Hid (Below G w2 wr) ∧ G < wr.heap.size) (fun _ _ i _ => q.length - (intOf i).toNat)
    case atStart => exact ⟨0, Nat.zero_le _, rfl, HDS, HBa, hga⟩
    case round =>
      obtain ⟨k, hk, rfl, HD, HBR, hG⟩ := hrel
      by_cases hlt : k < q.length
      · obtain ⟨ad, rfl, hb, m0, m1, m2, m3, m4, m5⟩ := (HR2.out.below HBR.out).nd_at hlt
        have ho := HQO.out k hlt
        have hkn := HQK.out k hlt
        have hds := dpL_succ q k hlt
        have hdl := dpL_len q k hk
        have hrg := dep_range q k hk
        obtain ⟨x, hx⟩ : ∃ x, q.getD k nd0 = x := ⟨_, rfl⟩
        rw [hx] at m0 m1 m2 m3 m4 m5 ho hkn hds
        have hox : 0 ≤ x.x ∧ (x.x.toNat < k ∨ x.x.toNat = 0) := by
          have := ho.1
          split at this <;> omega
        have hoy : 0 ≤ x.y ∧ (x.y.toNat < k ∨ x.y.toNat = 0) := by
          have := ho.2
          split at this <;> omega
        obtain ⟨op, ni, ne, ng, nx, ny⟩ := x
        obtain ⟨kx, rfl⟩ : ∃ kx : Nat, nx = (kx : Int) := ⟨nx.toNat, by have : 0 ≤ nx := hox.1; omega⟩
        obtain ⟨ky, rfl⟩ : ∃ ky : Nat, ny = (ky : Int) := ⟨ny.toNat, by have : 0 ≤ ny := hoy.1; omega⟩
        have hkx : kx < q.length := by rcases hox.2 with h | h <;> (have h : _ := h; simp only [Int.toNat_natCast] at h; omega)
        have hky : ky < q.length := by rcases hoy.2 with h | h <;> (have h : _ := h; simp only [Int.toNat_natCast] at h; omega)
        dsimp only at m0 m1 m2 m3 m4 m5 hkn
        have l1 := add_cell m1
        have l2 := add_cell m2
        have l3 := add_cell m3
        have l4 := add_cell m4
        have l5 := add_cell m5
        have HMO := Lib.hid (fun W => isModal_any op hkn W)
        have hstep : depStep (dpL q k) ⟨op, ni, ne, ng, kx, ky⟩ = max ((dpL q k).getD kx 0) ((dpL q k).getD ky 0) + (if modalOp op = true then 1 else 0) := rfl
        rw [hstep] at hds
        have hlen : (dpL q k ++ List.replicate (q.length - k) 0).length = q.length := by simp; omega
        have cx : ∀ W, DS W G (dpL q k ++ List.replicate (q.length - k) 0) → W.cell? ⟨G, kx, none⟩ = some (.int .i64 ((dpL q k).getD kx 0)) := fun W h => by have := h.cell (k := kx) (by omega); rw [pad_getD] at this; exact this
        have cy : ∀ W, DS W G (dpL q k ++ List.replicate (q.length - k) 0) → W.cell? ⟨G, ky, none⟩ = some (.int .i64 ((dpL q k).getD ky 0)) := fun W h => by have := h.cell (k := ky) (by omega); rw [pad_getD] at this; exact this
        have ci : ∀ W, DS W G (dpL q k ++ List.replicate (q.length - k) 0) → W.cell? ⟨G, k, none⟩ = some (.int .i64 ((dpL q k).getD k 0)) := fun W h => by have := h.cell (k := k) (by omega); rw [pad_getD] at this; exact this
        have HCX := Lib.hid (And.intro cx (And.intro cy ci))
        have hrx := hrg kx
        have hry := hrg ky
        have HPS := Lib.hid (fun v : Int => show (dpL q k ++ List.replicate (q.length - k) 0).set k v = (dpL q k ++ [v]) ++ List.replicate (q.length - (k + 1)) 0 from by
          rw [show q.length - k = (q.length - (k + 1)) + 1 from by omega]
          have := pad_set (dpL q k) (q.length - (k + 1)) v
          rw [hdl] at this
          exact this)
        have HDSU := Lib.hid hds
        clear hx ho hkn hds hdl hrg hox hoy hstep hlen cx cy ci
        generalize (dpL q k).getD kx 0 = dx at *
        generalize (dpL q k).getD ky 0 = dy at *
        generalize (dpL q k).getD k 0 = d0 at *
        generalize dpL q k ++ List.replicate (q.length - k) 0 = L at *
        go_wp2
        have HDA : Hid (DS (wr.alloc (.cells #[.int .i64 op, .int .i64 ni, .int .i64 ne, .int .i64 ng, .int .i64 (kx : Int), .int .i64 (ky : Int)] 44)) G L) := Lib.hid (HD.out.keep (Below.heap_alloc wr _ _ hG))
        have HBA : Hid (Below G w2 (wr.alloc (.cells #[.int .i64 op, .int .i64 ni, .int .i64 ne, .int .i64 ng, .int .i64 (kx : Int), .int .i64 (ky : Int)] 44))) := Lib.hid (HBR.out.alloc (by omega) _)
        have hbx := Box.made wr ⟨op, ni, ne, ng, kx, ky⟩ 44
        have hGA : G < (wr.alloc (.cells #[.int .i64 op, .int .i64 ni, .int .i64 ne, .int .i64 ng, .int .i64 (kx : Int), .int .i64 (ky : Int)] 44)).heap.size := by simp; omega
        have hGn : G ≠ wr.heap.size := by omega
        have hGn2 : wr.heap.size ≠ G := by omega
        obtain ⟨x0, x1, x2, x3, x4, x5, _⟩ := hbx
        clear m0 m1 m2 m3 m4 m5 l1 l2 l3 l4 l5
        generalize wr.alloc (.cells #[.int .i64 op, .int .i64 ni, .int .i64 ne, .int .i64 ng, .int .i64 (kx : Int), .int .i64 (ky : Int)] 44) = wa at *
        have c1 := HCX.out.1 wa HDA.out
        have c2 := HCX.out.2.1 wa HDA.out
        have c3 := HCX.out.2.2 wa HDA.out
        have f3 := HDA.out.free k
        go_region
        have hmx : (if dx < dy then dy else dx) = max dx dy := by split <;> omega
        have HDM := Lib.hid (HDA.out.put k (max dx dy))
        rw [← hmx] at HDM
        have HMX := Lib.hid hmx
        have hmr : 0 ≤ (if dx < dy then dy else dx) ∧ (if dx < dy then dy else dx) ≤ k := by split <;> omega
        clear hmx c1 c2 f3 hrx hry
        generalize (if dx < dy then dy else dx) = mx at *
        have hw1 : wrap64 (mx + 1) = mx + 1 := by unfold wrap64; omega
        have hw2 : IntKind.i64.wrap (mx + 1) = mx + 1 := by rw [IntKind.wrap_i64]; omega
        have f4 := HDM.out.free k
        go_wp2_with fail
        refine (HMO.out _).mono ?_
        rintro e wz ⟨rfl, rfl⟩
        cases hmo : modalOp op with
        | true =>
          have HDN := Lib.hid (HDM.out.put k (mx + 1))
          have HE : Hid ((L.set k mx).set k (mx + 1) = dpL q (k + 1) ++ List.replicate (q.length - (k + 1)) 0) := Lib.hid (by
            rw [List.set_set, HPS.out, HDSU.out, HMX.out, hmo]; rfl)
          rw [HE.out] at HDN
          clear HE HDM HDSU
          go_wp2
          go_roundw
          case rel => exact ⟨k + 1, by omega, by go_num, HDN, Lib.hid (((HBA.out.drew).setCell (by show G ≤ G; omega) _).setCell (by show G ≤ G; omega) _), by simpa using hGA⟩
          case measure => simp [intOf]; omega
        | false =>
          have HE : Hid (L.set k mx = dpL q (k + 1) ++ List.replicate (q.length - (k + 1)) 0) := Lib.hid (by
            rw [HPS.out, HDSU.out, HMX.out, hmo]; simp)
          rw [HE.out] at HDM
          clear HE HDSU
          go_wp2
          go_roundw
          case rel => exact ⟨k + 1, by omega, by go_num, HDM, Lib.hid ((HBA.out.drew).setCell (by show G ≤ G; omega) _), by simpa using hGA⟩
          case measure => simp [intOf]; omega
      · have hkq : k = q.length := by omega
        subst hkq
        have HL : Hid ((dpL q q.length).getLastD 0 = (dpL q q.length).getD (q.length - 1) 0) := Lib.hid (by
          have hl := dpL_len q q.length (Nat.le_refl _)
          rw [List.getLastD_eq_getLast?, List.getLast?_eq_getElem?, hl, ← List.getD_eq_getElem?_getD])
        have hcell := HD.out.cell (k := q.length - 1) (by have := dpL_len q q.length (Nat.le_refl _); simp; omega)
        rw [pad_getD, ← HL.out] at hcell
        have hs1 : wrap64 ((q.length : Int) - 1) = ((q.length - 1 : Nat) : Int) := by unfold wrap64; omega
        have hs2 : IntKind.i64.wrap ((q.length : Int) - 1) = ((q.length - 1 : Nat) : Int) := by rw [IntKind.wrap_i64]; omega
        have hs3 : (q.length : Int) - 1 = ((q.length - 1 : Nat) : Int) := by omega
        clear HL
        go_wp2
        go_ret
        exact ⟨by rw [List.getLastD_eq_getLast?]; rfl, HB2.out.trans (HBR.out.mono (HG.out ▸ HB2.out.size))⟩
  · have e1 : depF f = -1 := by unfold depF; rw [if_neg hz]
    have hzb : (fErr f == 0) = false := by simpa using hz
    rw [e1]
    rw [hzb] at HV
    clear hR hl hz e1 hzb
    go_enter Try.func14, Try.ntmps14
    go_wp2_with fail
    refine (HV.out).mono ?_
    rintro e w1 ⟨rfl, hb⟩
    have HB := Lib.hid hb
    clear hb
    go_wp2
    go_ret
    exact ⟨rfl, HB.out⟩
end Go.Proofs.Ytcbmncafmofcpaa
