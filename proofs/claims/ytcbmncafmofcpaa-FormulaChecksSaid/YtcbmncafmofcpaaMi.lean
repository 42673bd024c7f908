/- Layer 5: build. -/
import Derived.Test.YtcbmncafmofcpaaMh
namespace Go.Proofs.Ws
open Go
/-- the lists one behind the other, with operands at their new places -/
def catS : List (List Nd) → List Nd → List Nd
  | [], l => l
  | f :: fs, l => catS fs (l ++ f.map (shiftN l.length))
/-- the node behind the lists of its operands -/
def lastN (n : Nd) (fs : List (List Nd)) : Nd :=
  match fs with
  | [] => n
  | [f] => { n with x := (f.length : Int) - 1 }
  | [f, g] => { n with x := (f.length : Int) - 1, y := (f.length + g.length : Int) - 1 }
  | _ => n
def buildF (n : Nd) (fs : List (List Nd)) : List Nd :=
  if rangeOk n = false then [] else if ∃ f ∈ fs, fErr f ≠ 0 then [] else
  if 200 < (canonF (catS fs [] ++ [lastN n fs])).length then [] else canonF (catS fs [] ++ [lastN n fs])
end Go.Proofs.Ws
namespace Go.Proofs.Ytcbmncafmofcpaa
open Go.RowKit Go.Proofs.Ws Go.Maps
/-- two numbers in a block -/
def EB (W : World) (g : Nat) (e0 e1 : Int) : Prop := W.cell? ⟨g, 0, none⟩ = some (.int .i64 e0) ∧ W.cell? ⟨g, 1, none⟩ = some (.int .i64 e1) ∧ (∀ j, W.frozen? ⟨g, j, none⟩ = false)
theorem EB.keep {W W' : World} {g : Nat} {e0 e1 : Int} (h : EB W g e0 e1) (hb : W'.heap[g]? = W.heap[g]?) : EB W' g e0 e1 :=
  ⟨(World.cell?_of_block (a := ⟨g, 0, none⟩) hb).trans h.1, (World.cell?_of_block (a := ⟨g, 1, none⟩) hb).trans h.2.1, fun j => (World.frozen?_of_block (a := ⟨g, j, none⟩) hb).trans (h.2.2 j)⟩
theorem EB.set {W : World} {g : Nat} {e0 e1 : Int} (h : EB W g e0 e1) {k : Nat} (hk : k < 2) (v : Int) : EB (W.setCell ⟨g, k, none⟩ (.int .i64 v)) g (if k = 0 then v else e0) (if k = 1 then v else e1) := by
  obtain ⟨h0, h1, hf⟩ := h
  match k, hk with
  | 0, _ => exact ⟨World.cell?_setCell_same W _ _ h0, (World.cell?_setCell_other W ⟨g, 0, none⟩ ⟨g, 1, none⟩ _ (by simp)).trans h1, fun j => by rw [World.frozen?_setCell]; exact hf j⟩
  | 1, _ => exact ⟨(World.cell?_setCell_other W ⟨g, 1, none⟩ ⟨g, 0, none⟩ _ (by simp)).trans h0, World.cell?_setCell_same W _ _ h1, fun j => by rw [World.frozen?_setCell]; exact hf j⟩
theorem EB.made (w : World) (t : TypeId) : EB (w.alloc (.cells #[.int .i64 0, .int .i64 0] t)) w.heap.size 0 0 := by
  have hh := heap_alloc_new w (.cells #[.int .i64 0, .int .i64 0] t)
  have hc := Lib.cell_of_heap hh
  exact ⟨hc 0, hc 1, fun j => Lib.frozen_of_heap hh j⟩
theorem catS_app : ∀ (fs : List (List Nd)) (f : List Nd) (l : List Nd), catS (fs ++ [f]) l = catS fs l ++ f.map (shiftN (catS fs l).length)
  | [], _f, _l => rfl
  | _g :: fs, f, _l => catS_app fs f _
def catK (fs : List (List Nd)) (k : Nat) : List Nd := catS (fs.take k) []
theorem catK_succ (fs : List (List Nd)) (k : Nat) (h : k < fs.length) : catK fs (k + 1) = catK fs k ++ (fs.getD k []).map (shiftN (catK fs k).length) := by
  unfold catK
  rw [List.take_succ_eq_append_getElem h, catS_app, show fs.getD k [] = fs[k] from by simp [h]]
/-- the end of the list of operand j, as it stands after k rounds -/
def endK (fs : List (List Nd)) (k j : Nat) : Int := if j < k then ((catK fs (j + 1)).length : Int) - 1 else 0
theorem endK_succ (fs : List (List Nd)) (k j : Nat) : endK fs (k + 1) j = if k = j then ((catK fs (k + 1)).length : Int) - 1 else endK fs k j := by
  unfold endK
  by_cases e : k = j
  · subst e; rw [if_pos (by omega), if_pos rfl]
  · rw [if_neg e]
    by_cases h : j < k
    · rw [if_pos h, if_pos (by omega)]
    · rw [if_neg h, if_neg (by omega)]
theorem lastN_eq (n : Nd) (fs : List (List Nd)) (hx : n.x = 0) (hy : n.y = 0) (h : fs.length ≤ 2) : lastN n fs = { n with x := endK fs fs.length 0, y := endK fs fs.length 1 } := by
  match fs, h with
  | [], _ =>
    unfold lastN endK
    obtain ⟨a, b, c, d, e, f⟩ := n
    simp at hx hy; simp [hx, hy]
  | [f], _ =>
    unfold lastN endK catK catS
    obtain ⟨a, b, c, d, e, f⟩ := n
    simp at hx hy; simp [hy, catS]
  | [f, g], _ =>
    unfold lastN endK catK catS
    obtain ⟨a, b, c, d, e, f⟩ := n
    simp [catS]
set_option maxRecDepth 100000 in
set_option maxHeartbeats 4000000 in
theorem pBuild_any (n : Nd) (fs : List (List Nd)) (vs : List Value) (A : Option Addr) (c : Nat) (w : World) (hx : n.x = 0) (hy : n.y = 0) (hlen : fs.length ≤ 2) (hv : Reads w w.heap.size 1 A fs.length vs)
    (hvs : ∀ j, j < fs.length → ∃ Aj cj, vs[j]? = some (.slice Aj (fs.getD j []).length cj) ∧ Reads w w.heap.size 6 Aj (fs.getD j []).length (nds (fs.getD j [])) ∧ (fs.getD j []).length ≤ maxLen)
    (hfin : rangeOk n = true → (∀ f ∈ fs, fErr f = 0) → OkL (catK fs fs.length ++ [lastN n fs]) ∧ (catK fs fs.length ++ [lastN n fs]).length ≤ 401) :
    Calls Try.prog 86 #[nv n, .slice A fs.length c] w fun e w' => ∃ A' c', e = .returned (.slice A' (buildF n fs).length c') ∧ Reads w' w'.heap.size 6 A' (buildF n fs).length (nds (buildF n fs)) ∧ Below w.heap.size w w' := by
  have HSH := Lib.hid (fun W => pShape_any n.op W)
  have HIR : Hid (∀ W, Calls Try.prog 90 #[.agg #[.int .i64 (shN n.op), .int .i64 (shE n.op), .int .i64 (shG n.op), .int .i64 (shO n.op)], .agg #[.int .i64 n.op, .int .i64 n.i, .int .i64 n.e, .int .i64 n.g, .int .i64 n.x, .int .i64 n.y]] W fun e w' => e = .returned (.bool (rangeOk n)) ∧ Below W.heap.size W w') := Lib.hid (fun W => pInRange_any (shN n.op) (shE n.op) (shG n.op) (shO n.op) n W)
  unfold shV shC at HSH
  have HV := Lib.hid hv
  have HVS := Lib.hid hvs
  have HFIN := Lib.hid hfin
  have HLN := Lib.hid (lastN_eq n fs hx hy hlen)
  have HBF : Hid (buildF n fs = if rangeOk n = false then [] else if ∃ f ∈ fs, fErr f ≠ 0 then [] else if 200 < (canonF (catK fs fs.length ++ [lastN n fs])).length then [] else canonF (catK fs fs.length ++ [lastN n fs])) := Lib.hid (by
    unfold buildF catK; rw [List.take_length])
  generalize buildF n fs = bf at *
  generalize lastN n fs = ln at *
  unfold nv
  clear hv hvs hfin hx hy
  generalize hq1 : shN n.op = q1 at *
  generalize hq2 : shE n.op = q2 at *
  generalize hq3 : shG n.op = q3 at *
  generalize hq4 : shO n.op = q4 at *
  generalize hq5 : known n.op = q5 at *
  clear hq1 hq2 hq3 hq4 hq5
  have hbx := fun (W : World) => Box.made W n 44
  go_enter Try.func86, Try.ntmps86
  go_wp2_with fail
  have HB0 : Hid (Below w.heap.size w (w.alloc (.cells #[.int .i64 n.op, .int .i64 n.i, .int .i64 n.e, .int .i64 n.g, .int .i64 n.x, .int .i64 n.y] 44))) := Lib.hid ((Below.refl _ w).alloc (Nat.le_refl _) _)
  have HBX0 := Lib.hid (hbx w)
  have hs0 : w.heap.size < (w.alloc (.cells #[.int .i64 n.op, .int .i64 n.i, .int .i64 n.e, .int .i64 n.g, .int .i64 n.x, .int .i64 n.y] 44)).heap.size := by simp
  clear hbx
  generalize w.alloc (.cells #[.int .i64 n.op, .int .i64 n.i, .int .i64 n.e, .int .i64 n.g, .int .i64 n.x, .int .i64 n.y] 44) = w0 at *
  refine (HSH.out _).mono ?_
  rintro e w1 ⟨rfl, hb1⟩
  have hs1 : w.heap.size < w1.heap.size := Nat.lt_of_lt_of_le hs0 hb1.size
  have HB1 := Lib.hid (((HB0.out).trans (hb1.mono (Nat.le_of_lt hs0))).alloc (Nat.le_of_lt hs1) (.cells #[.int .i64 q1, .int .i64 q2, .int .i64 q3, .int .i64 q4] 72))
  have hbx1 := (HBX0.out.keep (W' := w1) (hb1.block _ hs0)).keep (W' := w1.alloc (.cells #[.int .i64 q1, .int .i64 q2, .int .i64 q3, .int .i64 q4] 72)) (Below.heap_alloc w1 _ _ hs1)
  have HBX1 := Lib.hid hbx1
  have hs1a : w.heap.size < (w1.alloc (.cells #[.int .i64 q1, .int .i64 q2, .int .i64 q3, .int .i64 q4] 72)).heap.size := by simp; omega
  obtain ⟨b0, b1, b2, b3, b4, b5, _⟩ := hbx1
  clear hb1
  go_wp2_with fail
  clear b0 b1 b2 b3 b4 b5
  generalize w1.alloc (.cells #[.int .i64 q1, .int .i64 q2, .int .i64 q3, .int .i64 q4] 72) = w2 at *
  refine (HIR.out _).mono ?_
  rintro e w3 ⟨rfl, hb3⟩
  have HB3 := Lib.hid (HB1.out.trans (hb3.mono (Nat.le_of_lt hs1a)))
  have HBX3 := Lib.hid (HBX1.out.keep (W' := w3) (hb3.block _ hs1a))
  have hs3 : w.heap.size < w3.heap.size := Nat.lt_of_lt_of_le hs1a hb3.size
  clear hb3
  cases hro : rangeOk n with
  | false =>
    have HE : Hid (bf = []) := Lib.hid (by rw [HBF.out, hro]; rfl)
    have HE2 : bf = [] := HE.out
    subst HE2
    go_wp2
    go_ret
    exact ⟨none, 0, rfl, Reads.none_, HB3.out⟩
  | true =>
    have HRO := Lib.hid hro
    clear hro
    go_wp2
    have HEB := Lib.hid (EB.made w3 87)
    have HBE : Hid (Below w3.heap.size w3 (w3.alloc (.cells #[.int .i64 0, .int .i64 0] 87))) := Lib.hid ((Below.refl _ w3).alloc (Nat.le_refl _) _)
    have hsE : w3.heap.size < (w3.alloc (.cells #[.int .i64 0, .int .i64 0] 87)).heap.size := by simp
    generalize w3.alloc (.cells #[.int .i64 0, .int .i64 0] 87) = w4 at *
    have hwG : w.heap.size < w3.heap.size := hs3
    generalize hG : w3.heap.size = G at *
    have HG := Lib.hid hG
    clear hG
    go_loopw [7, 9, 10, 23] (fun u7 u9 u10 i wr => ∃ (k : Nat), k ≤ fs.length ∧ i = .int .i64 k ∧ Hid (wr.ownsRow (G + 1) 44 6 u7 (catK fs k).length (nds (catK fs k))) ∧ Hid (EB wr G (endK fs k 0) (endK fs k 1)) ∧ Hid (Below G w3 wr) ∧ Hid (∀ j, j < k → fErr (fs.getD j []) = 0) ∧ G < wr.heap.size ∧ (catK fs k).length ≤ 200 * k) (fun _ _ _ i _ => fs.length - (intOf i).toNat)
    case atStart => exact ⟨0, Nat.zero_le _, rfl, Lib.hid (World.ownsRow_nil _ _ _ _), HEB, HBE, Lib.hid (fun j hj => absurd hj (by omega)), hsE, by simp [catK, catS]⟩
    case round =>
      obtain ⟨k, hk, rfl, HO, HEK, HB, HFE, hGr, hcl⟩ := hrel
      by_cases hlt : k < fs.length
      · have HBW := Lib.hid (HB3.out.trans (HB.out.mono (Nat.le_of_lt hwG)))
        obtain ⟨Aj, cj, hvj, hRj, hmj⟩ := HVS.out k hlt
        obtain ⟨ad, rfl, hadb, hadc⟩ := HV.out.2 (by omega)
        have hcj : wr.cell? (ad.add k) = some (.slice Aj (fs.getD k []).length cj) := (HBW.out.cell (p := ad.add k) (by rw [block_of_add]; exact hadb)).trans (hadc k _ hvj)
        have HRj := Lib.hid (hRj.below HBW.out)
        have HVJ := Lib.hid (pValid_any (fs.getD k []) Aj (fs.getD k []).length cj wr (HRj.out.more HBW.out.size) hmj)
        have hk2 : (k : Int) < 2 := by omega
        have hk2n : k < 2 := by omega
        have HNE := Lib.hid (endK_succ fs k)
        have HCK := Lib.hid (catK_succ fs k hlt)
        clear hadc hvj hRj
        by_cases hz : fErr (fs.getD k []) = 0
        · have hf200 := (fErr_ok hz).2.1
          have HAP : Hid (∀ W, Below wr.heap.size wr W → Calls Try.prog 108 #[u7, .slice Aj (fs.getD k []).length cj] W fun e w' => ∃ v', e = .returned v' ∧ w'.ownsRow (G + 1) 44 6 v' (catK fs (k + 1)).length (nds (catK fs (k + 1))) ∧ Below (G + 1) W w') := Lib.hid (fun W hW => by
            rw [HCK.out]
            exact pAppS_any (catK fs k) (fs.getD k []) Aj (fs.getD k []).length cj (G + 1) u7 W (fErr_ops hz) (by omega) (by omega) (by have := hW.size; omega) ((HRj.out.below (hW.mono (by omega))).more (by omega)) (own_keep1 HO.out (fun g hg => hW.block g (HO.out.lt g hg).2)))
          have HFE2 : Hid (∀ j, j < k + 1 → fErr (fs.getD j []) = 0) := Lib.hid (fun j hj => by
            by_cases e : j = k
            · subst e; exact hz
            · exact HFE.out j (by omega))
          have hcl2 : (catK fs (k + 1)).length ≤ 200 * (k + 1) := by rw [HCK.out, List.length_append, List.length_map]; omega
          rw [hz] at HVJ
          have HN0 := Lib.hid (HNE.out 0)
          have HN1 := Lib.hid (HNE.out 1)
          clear hz HNE
          generalize fs.getD k [] = fj at *
          go_wp2_with fail
          refine (HVJ.out).mono ?_
          rintro e w5 ⟨rfl, hb5⟩
          have HB5 := Lib.hid hb5
          clear hb5 hcj
          go_wp2_with fail
          refine (HAP.out _ HB5.out).mono ?_
          rintro e w6 ⟨v', rfl, hO6, hb6⟩
          obtain ⟨A6, c6, rfl⟩ := own_sl hO6
          have hs5 := HB5.out.size
          have hs6 := hb6.size
          have HO6 := Lib.hid hO6
          have HE6 := Lib.hid ((HEK.out.keep (W' := w5) (HB5.out.block G hGr)).keep (W' := w6) (hb6.block G (by omega)))
          have HB6 : Hid (Below G w3 w6) := Lib.hid ((HB.out.trans (HB5.out.mono (by omega))).trans (hb6.mono (by omega)))
          have HES := Lib.hid (HE6.out.set hk2n (((catK fs (k + 1)).length : Int) - 1))
          obtain ⟨e0, e1, ef⟩ := HE6.out
          have hck : ∃ z, w6.cell? ⟨G, k, none⟩ = some (.int .i64 z) := by
            have : k = 0 ∨ k = 1 := by omega
            rcases this with rfl | rfl
            · exact ⟨_, e0⟩
            · exact ⟨_, e1⟩
          obtain ⟨zk, hck⟩ := hck
          have hfk := ef k
          clear hO6 hb6 e0 e1 ef
          generalize hcc : (catK fs (k + 1)).length = m6 at *
          have hw1 : wrap64 ((m6 : Int) - 1) = (m6 : Int) - 1 := by unfold wrap64; omega
          have hw2 : IntKind.i64.wrap ((m6 : Int) - 1) = (m6 : Int) - 1 := by rw [IntKind.wrap_i64]; omega
          go_wp2
          go_roundw
          case rel =>
            refine ⟨k + 1, by omega, by go_num, Lib.hid ?_, Lib.hid ?_, Lib.hid (HB6.out.setCell (by show G ≤ G; omega) _), HFE2, by simp; omega, by omega⟩
            · rw [hcc]
              exact ownsRow_setCell_below HO6.out (by show G < G + 1; omega) _
            · rw [HN0.out, HN1.out]
              exact HES.out
          case measure => simp [intOf]; omega
        · have HE : Hid (bf = []) := Lib.hid (by
            rw [HBF.out, HRO.out, if_neg (by decide), if_pos ⟨_, show fs.getD k [] ∈ fs from by rw [show fs.getD k [] = fs[k] from by simp [hlt]]; exact List.getElem_mem hlt, hz⟩])
          have HE2 : bf = [] := HE.out
          have hzb : (fErr (fs.getD k []) == 0) = false := by simpa using hz
          rw [hzb] at HVJ
          subst HE2
          clear hz hzb HE HRj HCK
          generalize fs.getD k [] = fj at *
          go_wp2_with fail
          refine (HVJ.out).mono ?_
          rintro e w5 ⟨rfl, hb5⟩
          have HB5 := Lib.hid (HBW.out.trans (hb5.mono HBW.out.size))
          clear hb5
          go_wp2
          go_ret
          exact ⟨none, 0, rfl, Reads.none_, HB5.out⟩
      · have hkf : k = fs.length := by omega
        have hBX := HBX3.out.keep (W' := wr) (HB.out.block _ hwG)
        have HBXr := Lib.hid hBX
        obtain ⟨b0, b1, b2, b3, b4, b5, bf'⟩ := hBX
        have bf4 := bf' 4
        have bf5 := bf' 5
        obtain ⟨e0, e1, ef⟩ := HEK.out
        have hngw : G ≠ w.heap.size := by omega
        have hngw2 : w.heap.size ≠ G := by omega
        clear bf' ef
        go_wp2
        have HALL : Hid (∀ f ∈ fs, fErr f = 0) := Lib.hid (fun f hf => by
          obtain ⟨j, hj, hj2⟩ := List.getElem_of_mem hf
          have := HFE.out j (by omega)
          rw [show fs.getD j [] = f from by simp [hj, hj2]] at this
          exact this)
        subst hkf
        obtain ⟨hok, h401⟩ := HFIN.out HRO.out HALL.out
        have HOK := Lib.hid hok
        have hln := HLN.out
        have HBF2 : Hid (bf = if 200 < (canonF (catK fs fs.length ++ [ln])).length then [] else canonF (catK fs fs.length ++ [ln])) := Lib.hid (by
          rw [HBF.out, HRO.out, if_neg (by decide), if_neg (fun ⟨f, hf, hz⟩ => hz (HALL.out f hf))])
        clear hok
        go_region
        have HBXz := Lib.hid ((HBXr.out.setX (endK fs fs.length 0)).setY (endK fs fs.length 1))
        have HOz : Hid (((wr.setCell ⟨w.heap.size, 4, none⟩ (.int .i64 (endK fs fs.length 0))).setCell ⟨w.heap.size, 5, none⟩ (.int .i64 (endK fs fs.length 1))).drew.ownsRow (G + 1) 44 6 u7 (catK fs fs.length).length (nds (catK fs fs.length))) :=
          Lib.hid (ownsRow_setCell_below (ownsRow_setCell_below HO.out (by show w.heap.size < G + 1; omega) _) (by show w.heap.size < G + 1; omega) _)
        have HBz : Hid (Below w.heap.size w ((wr.setCell ⟨w.heap.size, 4, none⟩ (.int .i64 (endK fs fs.length 0))).setCell ⟨w.heap.size, 5, none⟩ (.int .i64 (endK fs fs.length 1))).drew) :=
          Lib.hid (((HB3.out.trans (HB.out.mono (Nat.le_of_lt hwG))).setCell (by show w.heap.size ≤ w.heap.size; omega) _).setCell (by show w.heap.size ≤ w.heap.size; omega) _).drew
        have hsz : G < ((wr.setCell ⟨w.heap.size, 4, none⟩ (.int .i64 (endK fs fs.length 0))).setCell ⟨w.heap.size, 5, none⟩ (.int .i64 (endK fs fs.length 1))).drew.heap.size := by show G < ((wr.setCell _ _).setCell _ _).heap.size; simpa using hGr
        have hbz2 : Box ((wr.setCell ⟨w.heap.size, 4, none⟩ (.int .i64 (endK fs fs.length 0))).setCell ⟨w.heap.size, 5, none⟩ (.int .i64 (endK fs fs.length 1))).drew w.heap.size { n with x := endK fs fs.length 0, y := endK fs fs.length 1 } := HBXz.out
        rw [← hln] at hbz2
        obtain ⟨y0, y1, y2, y3, y4, y5, _⟩ := hbz2
        have HLX := Lib.hid hln
        clear hln b0 b1 b2 b3 b4 b5 bf4 bf5 e0 e1 HBXz hngw hngw2
        generalize ((wr.setCell ⟨w.heap.size, 4, none⟩ (.int .i64 (endK fs fs.length 0))).setCell ⟨w.heap.size, 5, none⟩ (.int .i64 (endK fs fs.length 1))).drew = wz at *
        generalize hcat : catK fs fs.length = L at *
        have hL401 : L.length ≤ 400 := by have := h401; rw [List.length_append] at this; simp at this; omega
        go_wp2_with (at_builtin; refine wp_appN ln _ rfl _ _ rfl (G + 1) _ _ rfl (HOz.out.alloc _) rfl ?k1 ?k2 ?k3 ?_)
        case k1 =>
          intro j u hj
          have hh := heap_alloc_new wz (.cells #[.int .i64 ln.op, .int .i64 ln.i, .int .i64 ln.e, .int .i64 ln.g, .int .i64 ln.x, .int .i64 ln.y] 44)
          have := Lib.cell_of_heap hh j
          rw [this, ← hj]
          simp [ndC]
        case k2 => omega
        case k3 => simp; omega
        · intro v7 w7 hown7 hgrow
          obtain ⟨A7, c7, rfl⟩ := own_sl hown7
          have HR7 := Lib.hid (Reads.of_own hown7)
          have HB7 : Hid (Below w.heap.size w w7) := Lib.hid ((HBz.out.alloc (by have := HBz.out.size; omega) _).grown hgrow (by have := HBz.out.size; simp; omega) (fun g hg => by have := (HOz.out.lt g hg).1; omega))
          have HCN := Lib.hid (pCanon_any (L ++ [ln]) HOK.out A7 (L.length + 1) c7 w7 HR7.out (by omega))
          clear hown7 hgrow y0 y1 y2 y3 y4 y5
          generalize canonF (L ++ [ln]) = q at *
          go_wp2_with fail
          refine (HCN.out).mono ?_
          rintro e w8 ⟨A8, c8, rfl, hR8, hb8⟩
          have HR8 := Lib.hid hR8
          have HB8 := Lib.hid (HB7.out.trans (hb8.mono HB7.out.size))
          clear hR8 hb8
          by_cases h2 : 200 < q.length
          · have hd : decide (200 < (q.length : Int)) = true := decide_eq_true (by omega)
            have hd2 : decide (200 < q.length) = true := decide_eq_true h2
            have HE : Hid (bf = []) := Lib.hid (by rw [HBF2.out, if_pos h2])
            have HE2 : bf = [] := HE.out
            subst HE2
            clear h2
            go_wp2
            go_ret
            exact ⟨none, 0, rfl, Reads.none_, HB8.out⟩
          · have hd : decide (200 < (q.length : Int)) = false := decide_eq_false (by omega)
            have hd2 : decide (200 < q.length) = false := decide_eq_false h2
            have HE : Hid (bf = q) := Lib.hid (by rw [HBF2.out, if_neg h2])
            have HE2 : bf = q := HE.out
            subst HE2
            clear h2
            go_wp2
            go_ret
            exact ⟨A8, c8, rfl, HR8.out, HB8.out⟩
end Go.Proofs.Ytcbmncafmofcpaa
