/- Layer 8: the reference's Simplify. -/
import Derived.Test.YtkkkomkljpolbaaDoorGzc
import Derived.Test.YtkkkomkljpolbaaDoorGzd
namespace Go.Proofs.YtkkkomkljpolbaaDoor
open Go.RowKit Go.Proofs.Ws Go.Maps
set_option maxRecDepth 100000
theorem sBoolB_any (op : Int) (h5 : 5 ≤ op) (h8 : op ≤ 8) (s t : Tr) (hs : AllOk s) (ht : AllOk t) (ls : (canT s).length ≤ 199) (lt : (canT t).length ≤ 199) (A B : Option Addr) (ca cb : Nat) (w : World) (hA : w.ownsRow 0 62 6 (.slice A (canT s).length ca) (canT s).length (nds (canT s))) (hB : w.ownsRow 0 62 6 (.slice B (canT t).length cb) (canT t).length (nds (canT t))) :
    Calls Tryd.prog 64 #[.int .i64 op, .slice A (canT s).length ca, .slice B (canT t).length cb] w fun e w' => ∃ A' c', e = .returned (.slice A' (oL (sBoolO op s t)).length c') ∧ w'.ownsRow 0 62 6 (.slice A' (oL (sBoolO op s t)).length c') (oL (sBoolO op s t)).length (nds (oL (sBoolO op s t))) ∧ Below w.heap.size w w' := by
  have h : op = 5 ∨ op = 6 ∨ op = 7 ∨ op = 8 := by omega
  rcases h with rfl | rfl | rfl | rfl
  · exact sBool5_any s t hs ht ls lt A B ca cb w hA hB
  · exact sBool6_any s t hs ht ls lt A B ca cb w hA hB
  · exact sBool7_any s t hs ht ls lt A B ca cb w hA hB
  · exact sBool8_any s t hs ht ls lt A B ca cb w hA hB
theorem LL.own_ {W : World} {b : Nat} {v : Value} {ls : List (List Nd)} (h : LL W b v ls) {n : Nat} (hn : ls.length = n) : ∃ A c, v = .slice A n c ∧ ∀ k, k < n → ∃ ad Aj cj, A = some ad ∧ W.cell? (ad.add k) = some (.slice Aj (ls.getD k []).length cj) ∧ W.ownsRow 0 62 6 (.slice Aj (ls.getD k []).length cj) (ls.getD k []).length (nds (ls.getD k [])) := by
  subst hn
  exact h.slice
def siT (q : List Nd) (j : Nat) : Tr := mapT simT (treeAt q j)
def siL (q : List Nd) (k : Nat) : List (List Nd) := (List.range k).map (fun j => canT (siT q j))
theorem siL_len (q : List Nd) (k : Nat) : (siL q k).length = k := by unfold siL; rw [List.length_map, List.length_range]
theorem siL_suc (q : List Nd) (k : Nat) : siL q (k + 1) = siL q k ++ [canT (siT q k)] := by unfold siL; rw [List.range_succ, List.map_append]; rfl
theorem siL_at (q : List Nd) {k j : Nat} (h : j < k) : (siL q k).getD j [] = canT (siT q j) := by
  unfold siL
  rw [List.getD_eq_getElem?_getD, List.getElem?_map, List.getElem?_range h]
  rfl
structure SimR (f q : List Nd) : Prop where
  ok : OkL q
  fld : ∀ n ∈ q, fldOk n
  len : q.length ≤ 200
  short : ∀ j, j < q.length → (canT (siT q j)).length ≤ j + 1
  all : ∀ j, j < q.length → AllOk (siT q j)
  last : canT (siT q (q.length - 1)) = mapF (mapT simT) f
  err : mapE (mapT simT) f = 0
theorem simR_of {f : List Nd} (hz : fErr f = 0) : SimR f (compF f) := by
  have hk := compF_ok hz
  have ok := OkL_of hk
  have h200 := (fErr_ok hk).2.1
  have hp := List.length_pos_iff.2 ok.ne
  have hsh : ∀ j, j < (compF f).length → (canT (siT (compF f) j)).length ≤ j + 1 := fun j hj => sim_part ok.ops hj
  have e2 : mapT simT (tOf f) = siT (compF f) ((compF f).length - 1) := by
    rw [← tOf_comp hz]
    rfl
  have hl := hsh _ (show (compF f).length - 1 < (compF f).length by omega)
  refine ⟨ok, fErr_fld hk, h200, hsh, fun j hj => mapT_all sim_keep _ ⟨treeAt_ok ok.ops _ _ (Nat.lt_succ_self _) hj, treeAt_all ok.ops (fun n hn => fErr_fld hk n hn) _ _ (Nat.lt_succ_self _) hj⟩, ?_, ?_⟩
  · have h1 : mapF (mapT simT) f = resL (mapT simT (tOf f)) := if_pos hz
    rw [h1, e2, resL_short (by omega)]
  · have h1 : mapE (mapT simT) f = resE (mapT simT (tOf f)) := if_pos hz
    rw [h1, e2]
    unfold resE
    rw [if_neg (by omega)]
theorem oL_nil {r : Option Tr} : oL r = [] ↔ r = none := by
  cases r with
  | none => exact ⟨fun _ => rfl, fun _ => rfl⟩
  | some t => exact ⟨fun h => absurd h (canT_ne t), fun h => by cases h⟩
theorem oL_get {r : Option Tr} {d : Tr} (h : oL r ≠ []) : canT (r.getD d) = oL r := by
  cases r with
  | none => exact absurd rfl h
  | some t => rfl
/-- a place's result, by its operands' -/
theorem si_bin {f q : List Nd} (h : SimR f q) {k : Nat} (hk : k < q.length) (h2 : usesY (q.getD k nd0).op = true) :
    ∃ x y : Nat, (q.getD k nd0).x = (x : Int) ∧ (q.getD k nd0).y = (y : Int) ∧ x < k ∧ y < k ∧
      (oL (simO (q.getD k nd0).op (siT q x) (siT q y)) ≠ [] → canT (siT q k) = oL (simO (q.getD k nd0).op (siT q x) (siT q y))) ∧
      (oL (simO (q.getD k nd0).op (siT q x) (siT q y)) = [] → canT (siT q k) = rebF (q.getD k nd0) (canT (siT q x)) (canT (siT q y))) := by
  have ho := h.ok.ops k hk
  have hn := h.fld _ (getD_mem hk)
  have hsk := h.short k hk
  have hte := treeAt_eq h.ok.ops hk
  have hk200 := h.len
  generalize q.getD k nd0 = n at *
  have h1 := usesY_X h2
  have hx := opsOk_x ho h1
  have hy := opsOk_y ho h2
  have e : siT q k = (simO n.op (siT q n.x.toNat) (siT q n.y.toNat)).getD (mkT (bare n) (siT q n.x.toNat) (siT q n.y.toNat)) := by
    have ha := h.all n.x.toNat (by omega)
    have hb := h.all n.y.toNat (by omega)
    have h3 : siT q k = simT (bare n) (siT q n.x.toNat) (siT q n.y.toNat) := by
      unfold siT
      rw [hte, if_pos h2]
      rfl
    rw [h3, ← simR_eq (show bare (bare n) = bare n from rfl) (show fldOk (bare n) from hn) (fun _ => ha) (fun _ => hb), simO_get]
    rfl
  refine ⟨n.x.toNat, n.y.toNat, by omega, by omega, hx.2, hy.2, fun hne => by rw [e]; exact oL_get hne, fun hno => ?_⟩
  have hno2 := oL_nil.1 hno
  rw [hno2] at e
  have h4 := reb_res hn (a := siT q n.x.toNat) (b := siT q n.y.toNat) (fun _ => h.all _ (by omega)) (fun _ => h.all _ (by omega))
  rw [resL_short (by have := h.short n.x.toNat (by omega); omega), resL_short (by have := h.short n.y.toNat (by omega); omega)] at h4
  rw [h4, ← show siT q k = mkT (bare n) (siT q n.x.toNat) (siT q n.y.toNat) from e, resL_short (by omega)]
theorem si_un {f q : List Nd} (h : SimR f q) {k : Nat} (hk : k < q.length) (h1 : usesX (q.getD k nd0).op = true) (h2 : ¬ usesY (q.getD k nd0).op = true) :
    ∃ x : Nat, (q.getD k nd0).x = (x : Int) ∧ x < k ∧
      (oL (simO (q.getD k nd0).op (siT q x) noT) ≠ [] → canT (siT q k) = oL (simO (q.getD k nd0).op (siT q x) noT)) ∧
      (oL (simO (q.getD k nd0).op (siT q x) noT) = [] → canT (siT q k) = rebF (q.getD k nd0) (canT (siT q x)) []) := by
  have ho := h.ok.ops k hk
  have hn := h.fld _ (getD_mem hk)
  have hsk := h.short k hk
  have hte := treeAt_eq h.ok.ops hk
  have hk200 := h.len
  generalize q.getD k nd0 = n at *
  have hx := opsOk_x ho h1
  have e : siT q k = (simO n.op (siT q n.x.toNat) noT).getD (mkT (bare n) (siT q n.x.toNat) noT) := by
    have ha := h.all n.x.toNat (by omega)
    have h3 : siT q k = simT (bare n) (siT q n.x.toNat) noT := by
      unfold siT
      rw [hte, if_neg h2, if_pos h1]
      rfl
    rw [h3, ← simR_eq (show bare (bare n) = bare n from rfl) (show fldOk (bare n) from hn) (fun _ => ha) (fun k => absurd k h2), simO_get]
    rfl
  refine ⟨n.x.toNat, by omega, hx.2, fun hne => by rw [e]; exact oL_get hne, fun hno => ?_⟩
  have hno2 := oL_nil.1 hno
  rw [hno2] at e
  have h4 := reb_res hn (a := siT q n.x.toNat) (b := noT) (fun _ => h.all _ (by omega)) (fun k => absurd k h2)
  rw [resL_short (by have := h.short n.x.toNat (by omega); omega)] at h4
  have h5 : rebF n (canT (siT q n.x.toNat)) (resL noT) = rebF n (canT (siT q n.x.toNat)) [] := by
    unfold rebF
    rw [if_neg h2, if_neg h2, if_pos h1]
  rw [← h5, h4, ← show siT q k = mkT (bare n) (siT q n.x.toNat) noT from e, resL_short (by omega)]
theorem si_leaf {f q : List Nd} (h : SimR f q) {k : Nat} (hk : k < q.length) (h1 : ¬ usesX (q.getD k nd0).op = true) : canT (siT q k) = rebF (q.getD k nd0) [] [] := by
  have hn := h.fld _ (getD_mem hk)
  have hsk := h.short k hk
  have hte := treeAt_eq h.ok.ops hk
  have hk200 := h.len
  generalize q.getD k nd0 = n at *
  have h2 : ¬ usesY n.op = true := fun k => h1 (usesY_X k)
  have hop : n.op < 4 ∨ 21 < n.op := by
    unfold usesX at h1
    simp at h1
    omega
  have hkn : n.op ≤ 21 := by
    have h5 := hn.1
    unfold known at h5
    simp at h5
    omega
  have e : siT q k = mkT (bare n) noT noT := by
    have h3 : siT q k = simT (bare n) noT noT := by
      unfold siT
      rw [hte, if_neg h2, if_neg h1]
      rfl
    rw [h3, ← simR_eq (show bare (bare n) = bare n from rfl) (show fldOk (bare n) from hn) (fun k => absurd k h1) (fun k => absurd k h2), simO_get]
    have h6 : simO (bare n).op noT noT = none := by
      show simO n.op noT noT = none
      unfold simO
      rw [if_neg (by omega)]
      exact sModO_nil n.op (by simp; omega) _ _
    rw [h6]
    rfl
  have h4 := reb_res hn (a := noT) (b := noT) (fun k => absurd k h1) (fun k => absurd k h2)
  have h5 : rebF n (resL noT) (resL noT) = rebF n [] [] := by
    unfold rebF
    rw [if_neg h2, if_neg h2, if_neg h1, if_neg h1]
  rw [← h5, h4, ← e, resL_short (by omega)]
set_option maxHeartbeats 16000000 in
theorem rSimplify_any (f : List Nd) (A : Option Addr) (n c : Nat) (w : World) (hR : Reads w w.heap.size 6 A n (nds f)) (hm : n ≤ maxLen) :
    Calls Tryd.prog 17 #[.slice A n c] w fun e w' => ∃ A' c', e = .returned (.tuple #[.slice A' (mapF (mapT simT) f).length c', .int .i64 (mapE (mapT simT) f)]) ∧ Reads w' w'.heap.size 6 A' (mapF (mapT simT) f).length (nds (mapF (mapT simT) f)) ∧ Below w.heap.size w w' := by
  have HV := Lib.hid (rCheck_any f A n c w hR hm)
  have HR := Lib.hid hR
  by_cases hz : fErr f = 0
  · have HC := Lib.hid (fun W (h : Reads W W.heap.size 6 A n (nds f)) => rCompact_any f A n c W h hm)
    have HS := Lib.hid (simR_of hz)
    rw [hz] at HV
    obtain ⟨i0, hi, hz0, hz1, hz2⟩ := info_parts Tryd.infoSl
    clear hR hm
    rw [HS.out.err]
    generalize compF f = q at *
    generalize hrfe : mapF (mapT simT) f = rf at *
    have HRF := Lib.hid hrfe
    clear hrfe hz
    go_enter Tryd.func17, Tryd.ntmps17
    go_wp2_with fail
    refine (HV.out).mono ?_
    rintro e w1 ⟨rfl, hb⟩
    have HB1 := Lib.hid hb
    clear hb
    go_wp2_with fail
    refine (HC.out w1 ((HR.out.below HB1.out).more HB1.out.size)).mono ?_
    rintro e w2 ⟨Aq, cq, rfl, hq, hb2⟩
    have HQ := Lib.hid hq
    have HB2 := Lib.hid (HB1.out.trans (hb2.mono HB1.out.size))
    clear hb2 hq
    go_wp2
    go_loopw [5, 7, 8, 9, 10, 19] (fun v _ _ _ _ i wr => ∃ j : Nat, j ≤ q.length ∧ i = .int .i64 j ∧ Hid (LL wr w2.heap.size v (siL q j)) ∧ Hid (Below w2.heap.size w2 wr)) (fun _ _ _ _ _ i _ => q.length - (intOf i).toNat)
    case atStart => exact ⟨0, Nat.zero_le _, rfl, Lib.hid (LL.nil _ _), Lib.hid (Below.refl _ _)⟩
    case round =>
      obtain ⟨j, hj, rfl, HLJ, HBI⟩ := hrel
      obtain ⟨Al, cl, rfl, hit⟩ := HLJ.out.own_ (siL_len q j)
      have HIT := Lib.hid hit
      have HB3 := Lib.hid (HB2.out.trans (HBI.out.mono HB2.out.size))
      have hsz := HBI.out.size
      have hql := HS.out.len
      clear hit
      by_cases hlj : j < q.length
      · obtain ⟨aq, rfl, hbq, m0, m1, m2, m3, m4, m5⟩ := (HQ.out.below HBI.out).nd_at hlj
        have l1 := add_cell m1
        have l2 := add_cell m2
        have l3 := add_cell m3
        have l4 := add_cell m4
        have l5 := add_cell m5
        have HEXT := Lib.hid (siL_suc q j)
        have HAT := Lib.hid (fun (k2 : Nat) (h : k2 < j) => siL_at q h)
        have hkn : known (q.getD j nd0).op = true := (HS.out.fld _ (getD_mem hlj)).1
        have HLEN := Lib.hid (siL_len q j)
        have HSH := Lib.hid (fun (k2 : Nat) (h : k2 < j) => show (canT (siT q k2)).length ≤ 199 by have := HS.out.short k2 (by omega); omega)
        have HALL := Lib.hid (fun (k2 : Nat) (h : k2 < j) => HS.out.all k2 (by omega))
        have HSB := Lib.hid (fun h : usesY (q.getD j nd0).op = true => si_bin HS.out hlj h)
        have HSU := Lib.hid (fun (h : usesX (q.getD j nd0).op = true) (h2 : ¬ usesY (q.getD j nd0).op = true) => si_un HS.out hlj h h2)
        have HSLF := Lib.hid (fun h : ¬ usesX (q.getD j nd0).op = true => si_leaf HS.out hlj h)
        generalize hln : siL q (j + 1) = ln at *
        have HLN := Lib.hid hln
        clear hln
        generalize siL q j = l at *
        generalize canT (siT q j) = sI at *
        generalize q.getD j nd0 = y at *
        obtain ⟨op, i, e, g, x, yy⟩ := y
        dsimp only at m0 m1 m2 m3 m4 m5 l1 l2 l3 l4 l5 hkn HSB HSU HSLF
        have HUX := Lib.hid (fun W => rUsesX_any op hkn W)
        have HUY := Lib.hid (fun W => rUsesY_any op hkn W)
        have hop21 : 1 ≤ op ∧ op ≤ 21 := by unfold known at hkn; simp at hkn; omega
        by_cases huy : usesY op = true
        · obtain ⟨kx, ky, rfl, rfl, hkx2, hky2, hs1, hs2⟩ := HSB.out huy
          have HRES := Lib.hid (And.intro hs1 hs2)
          clear hs1 hs2
          obtain ⟨ad, Ax, cx, ex, hcx, hox⟩ := HIT.out kx hkx2
          rw [HAT.out kx hkx2] at hcx hox
          have HLx := Lib.hid (HSH.out kx hkx2)
          have HKx := Lib.hid (HALL.out kx hkx2)
          have HCx := Lib.hid hcx
          have HOx := Lib.hid hox
          clear hcx hox
          subst ex
          obtain ⟨ad', Ay, cy, ey, hcy, hoy⟩ := HIT.out ky hky2
          rw [HAT.out ky hky2] at hcy hoy
          have HLy := Lib.hid (HSH.out ky hky2)
          have HKy := Lib.hid (HALL.out ky hky2)
          have HCy := Lib.hid hcy
          have HOy := Lib.hid hoy
          clear hcy hoy
          obtain rfl : ad = ad' := Option.some.inj ey
          have hux : usesX op = true := usesY_X huy
          rw [hux] at HUX
          rw [huy] at HUY
          have HREB := Lib.hid (fun (W : World) (hA : W.ownsRow 0 62 6 (.slice Ax (canT (siT q kx)).length cx) (canT (siT q kx)).length (nds (canT (siT q kx)))) (hB : W.ownsRow 0 62 6 (.slice Ay (canT (siT q ky)).length cy) (canT (siT q ky)).length (nds (canT (siT q ky)))) => reb_any ⟨op, i, e, g, (kx : Int), (ky : Int)⟩ hkn (canT (siT q kx)) (canT (siT q ky)) Ax Ay cx cy W (Reads.of_own hA) (by have := HLx.out; unfold maxLen; omega) (Reads.of_own hB) (by have := HLy.out; unfold maxLen; omega))
          have HSM := Lib.hid (fun (W : World) (hA : W.ownsRow 0 62 6 (.slice Ax (canT (siT q kx)).length cx) (canT (siT q kx)).length (nds (canT (siT q kx)))) (hB : W.ownsRow 0 62 6 (.slice Ay (canT (siT q ky)).length cy) (canT (siT q ky)).length (nds (canT (siT q ky)))) => sModB_any op huy (siT q kx) (siT q ky) HKx.out HKy.out HLx.out HLy.out Ax Ay cx cy W hA hB)
          by_cases hbo : 5 ≤ op ∧ op ≤ 8
          · have hd1 : decide (5 ≤ op) = true := decide_eq_true hbo.1
            have hd2 : decide (op ≤ 8) = true := decide_eq_true hbo.2
            have HSBB := Lib.hid (fun (W : World) (hA : W.ownsRow 0 62 6 (.slice Ax (canT (siT q kx)).length cx) (canT (siT q kx)).length (nds (canT (siT q kx)))) (hB : W.ownsRow 0 62 6 (.slice Ay (canT (siT q ky)).length cy) (canT (siT q ky)).length (nds (canT (siT q ky)))) => sBoolB_any op hbo.1 hbo.2 (siT q kx) (siT q ky) HKx.out HKy.out HLx.out HLy.out Ax Ay cx cy W hA hB)
            rw [show simO op (siT q kx) (siT q ky) = sBoolO op (siT q kx) (siT q ky) from if_pos hbo] at HRES
            unfold nv at HREB
            dsimp only at HREB
            generalize rebF ⟨op, i, e, g, (kx : Int), (ky : Int)⟩ (canT (siT q kx)) (canT (siT q ky)) = rb at *
            generalize oL (sBoolO op (siT q kx) (siT q ky)) = rl at *
            generalize oL (sModO op (siT q kx) (siT q ky)) = rm at *
            generalize canT (siT q kx) = lx at *
            generalize canT (siT q ky) = ly at *
            clear hux huy hbo HSB HSU HSLF HAT HSH HALL HKx HKy ey hop21
            have HBX := Lib.hid (Box.made wr ⟨op, i, e, g, (kx : Int), (ky : Int)⟩ 62)
            have HBA : Hid (Below wr.heap.size wr (wr.alloc (.cells #[.int .i64 op, .int .i64 i, .int .i64 e, .int .i64 g, .int .i64 (kx : Int), .int .i64 (ky : Int)] 62))) := Lib.hid ((Below.refl _ wr).alloc (Nat.le_refl _) _)
            have HSA : Hid (wr.heap.size < (wr.alloc (.cells #[.int .i64 op, .int .i64 i, .int .i64 e, .int .i64 g, .int .i64 (kx : Int), .int .i64 (ky : Int)] 62)).heap.size) := Lib.hid (by simp)
            go_wp2_with fail
            refine (HUX.out _).mono ?_
            rintro r w4 ⟨rfl, rfl⟩
            generalize wr.alloc (.cells #[.int .i64 op, .int .i64 i, .int .i64 e, .int .i64 g, .int .i64 (kx : Int), .int .i64 (ky : Int)] 62) = w3 at *
            clear m0 m1 m2 m3 m4 m5 l1 l2 l3 l4 l5
            have hcx3 := (HBA.out.cell (p := ad.add kx) (by
              rcases Nat.lt_or_ge (ad.add kx).block wr.heap.size with h' | h'
              · exact h'
              · have := HCx.out; simp [World.cell?, Array.getElem?_eq_none h'] at this)).trans HCx.out
            have hcy3 := (HBA.out.cell (p := ad.add ky) (by
              rcases Nat.lt_or_ge (ad.add ky).block wr.heap.size with h' | h'
              · exact h'
              · have := HCy.out; simp [World.cell?, Array.getElem?_eq_none h'] at this)).trans HCy.out
            have HBW3 := Lib.hid HBA.out
            have HSA3 := Lib.hid HSA.out
            have HBX3 := Lib.hid HBX.out
            obtain ⟨b0, b1, b2, b3, b4, b5, _⟩ := HBX.out
            go_wp2_with fail
            refine (HUY.out _).mono ?_
            rintro r w4 ⟨rfl, rfl⟩
            go_wp2_with fail
            refine (HSM.out w3 (own_keep1 HOx.out (fun g hg => HBW3.out.block g (HOx.out.lt g hg).2)) (own_keep1 HOy.out (fun g hg => HBW3.out.block g (HOy.out.lt g hg).2))).mono ?_
            rintro r w5 ⟨Ar5, cr5, rfl, ho, hb⟩
            have HOR5 := Lib.hid ho
            have HBX5 := Lib.hid (HBX3.out.keep (W' := w5) (hb.block _ HSA3.out))
            have HBW5 := Lib.hid (HBW3.out.trans (hb.mono (by have := HSA3.out; omega)))
            have HSA5 : Hid (wr.heap.size < w5.heap.size) := Lib.hid (Nat.lt_of_lt_of_le HSA3.out hb.size)
            clear ho hb b0 b1 b2 b3 b4 b5
            obtain ⟨b0, b1, b2, b3, b4, b5, _⟩ := HBX5.out
            clear hcx3 hcy3
            go_wp2_with fail
            refine (HSBB.out w5 (own_keep1 HOx.out (fun g hg => HBW5.out.block g (HOx.out.lt g hg).2)) (own_keep1 HOy.out (fun g hg => HBW5.out.block g (HOy.out.lt g hg).2))).mono ?_
            rintro r w6 ⟨Ar6, cr6, rfl, ho, hb⟩
            have HOR6 := Lib.hid ho
            have HBX6 := Lib.hid (HBX5.out.keep (W' := w6) (hb.block _ HSA5.out))
            have HBW6 := Lib.hid (HBW5.out.trans (hb.mono (by have := HSA5.out; omega)))
            have HSA6 : Hid (wr.heap.size < w6.heap.size) := Lib.hid (Nat.lt_of_lt_of_le HSA5.out hb.size)
            clear ho hb b0 b1 b2 b3 b4 b5
            obtain ⟨b0, b1, b2, b3, b4, b5, _⟩ := HBX6.out
            by_cases hrl : rl = []
            · have HQ2 : Hid (sI = rb) := Lib.hid (HRES.out.2 hrl)
              have hz9 : ((rl.length : Int) == 0) = true := by rw [hrl]; rfl
              have hq2 := HQ2.out
              subst hq2
              clear hrl HRES HQ2
              go_wp2_with fail
              refine (HREB.out w6 (own_keep1 HOx.out (fun g hg => HBW6.out.block g (HOx.out.lt g hg).2)) (own_keep1 HOy.out (fun g hg => HBW6.out.block g (HOy.out.lt g hg).2))).mono ?_
              rintro r w8 ⟨Ar8, cr8, rfl, ho, hb⟩
              have HOR8 := Lib.hid ho
              have HBX8 := Lib.hid (HBX6.out.keep (W' := w8) (hb.block _ HSA6.out))
              have HBW8 := Lib.hid (HBW6.out.trans (hb.mono (by have := HSA6.out; omega)))
              have HSA8 : Hid (wr.heap.size < w8.heap.size) := Lib.hid (Nat.lt_of_lt_of_le HSA6.out hb.size)
              clear ho hb b0 b1 b2 b3 b4 b5
              obtain ⟨b0, b1, b2, b3, b4, b5, _⟩ := HBX8.out
              have HLJ8x := Lib.hid (HLJ.out.below HBW8.out)
              obtain ⟨vs, hown, hitr⟩ := (HLJ8x.out).row
              have HOW := Lib.hid hown
              have HITR := Lib.hid hitr
              have hll := HLEN.out
              have hsa := HSA8.out
              have HB8z : Hid (Below w2.heap.size w2 w8) := Lib.hid (HBI.out.trans (HBW8.out.mono hsz))
              clear hitr
              go_wp2_with (at_builtin; refine wpList_append_own _ rfl _ _ 29 rfl w2.heap.size 22 i0 (.slice none 0 0) 1 24 Tryd.underlying29 hi hz0 hz1 hz2 rfl (by decide) _ _ _ rfl ((hll ▸ hown).alloc _) ⟨w8.heap.size, 0, none⟩ 1 1 [.slice Ar8 sI.length cr8] rfl rfl ?k1 ?k2 ?k3 ?k4 ?k5 ?_)
              case k2 => intro u hu; simp at hu; subst hu; rfl
              case k3 => unfold maxLen; omega
              case k4 => omega
              case k5 => simp; omega
              case k1 =>
                intro j' u hj'
                match j', hj' with
                | 0, hj' => simp at hj'; subst hj'; simp [Addr.add]
              · intro v' w9 hown' hgrow _
                have HL9 : Hid (LL w9 w2.heap.size v' ln) := Lib.hid (by rw [HEXT.out]; exact LL.app HOW.out HITR.out HOR8.out (by rw [HLEN.out]; exact hown') hgrow)
                have HB9 : Hid (Below w2.heap.size w2 w9) := Lib.hid ((HB8z.out.alloc (by omega) _).grown hgrow (by simp; omega) (fun g hg => (HOW.out.lt g hg).1))
                clear hown' hgrow hown
                go_wp2
                go_roundw
                case rel => exact ⟨j + 1, by omega, by go_num, by rw [HLN.out]; exact HL9, HB9⟩
                case measure => first | (simp [intOf]; done) | (simp [intOf]; omega)
            · have HQ2 : Hid (sI = rl) := Lib.hid (HRES.out.1 hrl)
              have hz9 : ((rl.length : Int) == 0) = false := by
                have h0 : rl.length ≠ 0 := by simpa using hrl
                simpa using h0
              have hq2 := HQ2.out
              subst hq2
              clear hrl HRES HQ2
              have HLJ6x := Lib.hid (HLJ.out.below HBW6.out)
              obtain ⟨vs, hown, hitr⟩ := (HLJ6x.out).row
              have HOW := Lib.hid hown
              have HITR := Lib.hid hitr
              have hll := HLEN.out
              have hsa := HSA6.out
              have HB6z : Hid (Below w2.heap.size w2 w6) := Lib.hid (HBI.out.trans (HBW6.out.mono hsz))
              clear hitr
              go_wp2_with (at_builtin; refine wpList_append_own _ rfl _ _ 29 rfl w2.heap.size 22 i0 (.slice none 0 0) 1 24 Tryd.underlying29 hi hz0 hz1 hz2 rfl (by decide) _ _ _ rfl ((hll ▸ hown).alloc _) ⟨w6.heap.size, 0, none⟩ 1 1 [.slice Ar6 sI.length cr6] rfl rfl ?k1 ?k2 ?k3 ?k4 ?k5 ?_)
              case k2 => intro u hu; simp at hu; subst hu; rfl
              case k3 => unfold maxLen; omega
              case k4 => omega
              case k5 => simp; omega
              case k1 =>
                intro j' u hj'
                match j', hj' with
                | 0, hj' => simp at hj'; subst hj'; simp [Addr.add]
              · intro v' w9 hown' hgrow _
                have HL9 : Hid (LL w9 w2.heap.size v' ln) := Lib.hid (by rw [HEXT.out]; exact LL.app HOW.out HITR.out HOR6.out (by rw [HLEN.out]; exact hown') hgrow)
                have HB9 : Hid (Below w2.heap.size w2 w9) := Lib.hid ((HB6z.out.alloc (by omega) _).grown hgrow (by simp; omega) (fun g hg => (HOW.out.lt g hg).1))
                clear hown' hgrow hown
                go_wp2
                go_roundw
                case rel => exact ⟨j + 1, by omega, by go_num, by rw [HLN.out]; exact HL9, HB9⟩
                case measure => first | (simp [intOf]; done) | (simp [intOf]; omega)
          · have hd : (decide (5 ≤ op) = false) ∨ (decide (5 ≤ op) = true ∧ decide (op ≤ 8) = false) := by
              by_cases h5 : 5 ≤ op
              · exact .inr ⟨decide_eq_true h5, decide_eq_false (fun k => hbo ⟨h5, k⟩)⟩
              · exact .inl (decide_eq_false h5)
            have hd2 : decide (5 ≤ op) = true := decide_eq_true (by unfold usesY at huy; simp at huy; omega)
            have hd1 : decide (op ≤ 8) = false := decide_eq_false (fun k => hbo ⟨of_decide_eq_true hd2, k⟩)
            rw [show simO op (siT q kx) (siT q ky) = sModO op (siT q kx) (siT q ky) from if_neg hbo] at HRES
            unfold nv at HREB
            dsimp only at HREB
            generalize rebF ⟨op, i, e, g, (kx : Int), (ky : Int)⟩ (canT (siT q kx)) (canT (siT q ky)) = rb at *
            generalize oL (sModO op (siT q kx) (siT q ky)) = rl at *
            generalize canT (siT q kx) = lx at *
            generalize canT (siT q ky) = ly at *
            clear hd hux huy hbo HSB HSU HSLF HAT HSH HALL HKx HKy ey hop21
            have HBX := Lib.hid (Box.made wr ⟨op, i, e, g, (kx : Int), (ky : Int)⟩ 62)
            have HBA : Hid (Below wr.heap.size wr (wr.alloc (.cells #[.int .i64 op, .int .i64 i, .int .i64 e, .int .i64 g, .int .i64 (kx : Int), .int .i64 (ky : Int)] 62))) := Lib.hid ((Below.refl _ wr).alloc (Nat.le_refl _) _)
            have HSA : Hid (wr.heap.size < (wr.alloc (.cells #[.int .i64 op, .int .i64 i, .int .i64 e, .int .i64 g, .int .i64 (kx : Int), .int .i64 (ky : Int)] 62)).heap.size) := Lib.hid (by simp)
            go_wp2_with fail
            refine (HUX.out _).mono ?_
            rintro r w4 ⟨rfl, rfl⟩
            generalize wr.alloc (.cells #[.int .i64 op, .int .i64 i, .int .i64 e, .int .i64 g, .int .i64 (kx : Int), .int .i64 (ky : Int)] 62) = w3 at *
            clear m0 m1 m2 m3 m4 m5 l1 l2 l3 l4 l5
            have hcx3 := (HBA.out.cell (p := ad.add kx) (by
              rcases Nat.lt_or_ge (ad.add kx).block wr.heap.size with h' | h'
              · exact h'
              · have := HCx.out; simp [World.cell?, Array.getElem?_eq_none h'] at this)).trans HCx.out
            have hcy3 := (HBA.out.cell (p := ad.add ky) (by
              rcases Nat.lt_or_ge (ad.add ky).block wr.heap.size with h' | h'
              · exact h'
              · have := HCy.out; simp [World.cell?, Array.getElem?_eq_none h'] at this)).trans HCy.out
            have HBW3 := Lib.hid HBA.out
            have HSA3 := Lib.hid HSA.out
            have HBX3 := Lib.hid HBX.out
            obtain ⟨b0, b1, b2, b3, b4, b5, _⟩ := HBX.out
            go_wp2_with fail
            refine (HUY.out _).mono ?_
            rintro r w4 ⟨rfl, rfl⟩
            go_wp2_with fail
            refine (HSM.out w3 (own_keep1 HOx.out (fun g hg => HBW3.out.block g (HOx.out.lt g hg).2)) (own_keep1 HOy.out (fun g hg => HBW3.out.block g (HOy.out.lt g hg).2))).mono ?_
            rintro r w5 ⟨Ar5, cr5, rfl, ho, hb⟩
            have HOR5 := Lib.hid ho
            have HBX5 := Lib.hid (HBX3.out.keep (W' := w5) (hb.block _ HSA3.out))
            have HBW5 := Lib.hid (HBW3.out.trans (hb.mono (by have := HSA3.out; omega)))
            have HSA5 : Hid (wr.heap.size < w5.heap.size) := Lib.hid (Nat.lt_of_lt_of_le HSA3.out hb.size)
            clear ho hb b0 b1 b2 b3 b4 b5
            obtain ⟨b0, b1, b2, b3, b4, b5, _⟩ := HBX5.out
            clear hcx3 hcy3
            by_cases hrl : rl = []
            · have HQ2 : Hid (sI = rb) := Lib.hid (HRES.out.2 hrl)
              have hz9 : ((rl.length : Int) == 0) = true := by rw [hrl]; rfl
              have hq2 := HQ2.out
              subst hq2
              clear hrl HRES HQ2
              go_wp2_with fail
              refine (HREB.out w5 (own_keep1 HOx.out (fun g hg => HBW5.out.block g (HOx.out.lt g hg).2)) (own_keep1 HOy.out (fun g hg => HBW5.out.block g (HOy.out.lt g hg).2))).mono ?_
              rintro r w8 ⟨Ar8, cr8, rfl, ho, hb⟩
              have HOR8 := Lib.hid ho
              have HBX8 := Lib.hid (HBX5.out.keep (W' := w8) (hb.block _ HSA5.out))
              have HBW8 := Lib.hid (HBW5.out.trans (hb.mono (by have := HSA5.out; omega)))
              have HSA8 : Hid (wr.heap.size < w8.heap.size) := Lib.hid (Nat.lt_of_lt_of_le HSA5.out hb.size)
              clear ho hb b0 b1 b2 b3 b4 b5
              obtain ⟨b0, b1, b2, b3, b4, b5, _⟩ := HBX8.out
              have HLJ8x := Lib.hid (HLJ.out.below HBW8.out)
              obtain ⟨vs, hown, hitr⟩ := (HLJ8x.out).row
              have HOW := Lib.hid hown
              have HITR := Lib.hid hitr
              have hll := HLEN.out
              have hsa := HSA8.out
              have HB8z : Hid (Below w2.heap.size w2 w8) := Lib.hid (HBI.out.trans (HBW8.out.mono hsz))
              clear hitr
              go_wp2_with (at_builtin; refine wpList_append_own _ rfl _ _ 29 rfl w2.heap.size 22 i0 (.slice none 0 0) 1 24 Tryd.underlying29 hi hz0 hz1 hz2 rfl (by decide) _ _ _ rfl ((hll ▸ hown).alloc _) ⟨w8.heap.size, 0, none⟩ 1 1 [.slice Ar8 sI.length cr8] rfl rfl ?k1 ?k2 ?k3 ?k4 ?k5 ?_)
              case k2 => intro u hu; simp at hu; subst hu; rfl
              case k3 => unfold maxLen; omega
              case k4 => omega
              case k5 => simp; omega
              case k1 =>
                intro j' u hj'
                match j', hj' with
                | 0, hj' => simp at hj'; subst hj'; simp [Addr.add]
              · intro v' w9 hown' hgrow _
                have HL9 : Hid (LL w9 w2.heap.size v' ln) := Lib.hid (by rw [HEXT.out]; exact LL.app HOW.out HITR.out HOR8.out (by rw [HLEN.out]; exact hown') hgrow)
                have HB9 : Hid (Below w2.heap.size w2 w9) := Lib.hid ((HB8z.out.alloc (by omega) _).grown hgrow (by simp; omega) (fun g hg => (HOW.out.lt g hg).1))
                clear hown' hgrow hown
                go_wp2
                go_roundw
                case rel => exact ⟨j + 1, by omega, by go_num, by rw [HLN.out]; exact HL9, HB9⟩
                case measure => first | (simp [intOf]; done) | (simp [intOf]; omega)
            · have HQ2 : Hid (sI = rl) := Lib.hid (HRES.out.1 hrl)
              have hz9 : ((rl.length : Int) == 0) = false := by
                have h0 : rl.length ≠ 0 := by simpa using hrl
                simpa using h0
              have hq2 := HQ2.out
              subst hq2
              clear hrl HRES HQ2
              have HLJ5x := Lib.hid (HLJ.out.below HBW5.out)
              obtain ⟨vs, hown, hitr⟩ := (HLJ5x.out).row
              have HOW := Lib.hid hown
              have HITR := Lib.hid hitr
              have hll := HLEN.out
              have hsa := HSA5.out
              have HB5z : Hid (Below w2.heap.size w2 w5) := Lib.hid (HBI.out.trans (HBW5.out.mono hsz))
              clear hitr
              go_wp2_with (at_builtin; refine wpList_append_own _ rfl _ _ 29 rfl w2.heap.size 22 i0 (.slice none 0 0) 1 24 Tryd.underlying29 hi hz0 hz1 hz2 rfl (by decide) _ _ _ rfl ((hll ▸ hown).alloc _) ⟨w5.heap.size, 0, none⟩ 1 1 [.slice Ar5 sI.length cr5] rfl rfl ?k1 ?k2 ?k3 ?k4 ?k5 ?_)
              case k2 => intro u hu; simp at hu; subst hu; rfl
              case k3 => unfold maxLen; omega
              case k4 => omega
              case k5 => simp; omega
              case k1 =>
                intro j' u hj'
                match j', hj' with
                | 0, hj' => simp at hj'; subst hj'; simp [Addr.add]
              · intro v' w9 hown' hgrow _
                have HL9 : Hid (LL w9 w2.heap.size v' ln) := Lib.hid (by rw [HEXT.out]; exact LL.app HOW.out HITR.out HOR5.out (by rw [HLEN.out]; exact hown') hgrow)
                have HB9 : Hid (Below w2.heap.size w2 w9) := Lib.hid ((HB5z.out.alloc (by omega) _).grown hgrow (by simp; omega) (fun g hg => (HOW.out.lt g hg).1))
                clear hown' hgrow hown
                go_wp2
                go_roundw
                case rel => exact ⟨j + 1, by omega, by go_num, by rw [HLN.out]; exact HL9, HB9⟩
                case measure => first | (simp [intOf]; done) | (simp [intOf]; omega)
        · by_cases hux : usesX op = true
          · obtain ⟨kx, rfl, hkx2, hs1, hs2⟩ := HSU.out hux huy
            have HRES := Lib.hid (And.intro hs1 hs2)
            clear hs1 hs2
            obtain ⟨ad, Ax, cx, ex, hcx, hox⟩ := HIT.out kx hkx2
            rw [HAT.out kx hkx2] at hcx hox
            have HLx := Lib.hid (HSH.out kx hkx2)
            have HKx := Lib.hid (HALL.out kx hkx2)
            have HCx := Lib.hid hcx
            have HOx := Lib.hid hox
            clear hcx hox
            subst ex
            have huy2 : usesY op = false := by simpa using huy
            rw [hux] at HUX
            rw [huy2] at HUY
            have HREB := Lib.hid (fun (W : World) (hA : W.ownsRow 0 62 6 (.slice Ax (canT (siT q kx)).length cx) (canT (siT q kx)).length (nds (canT (siT q kx)))) => reb_any ⟨op, i, e, g, (kx : Int), yy⟩ hkn (canT (siT q kx)) [] Ax none cx 0 W (Reads.of_own hA) (by have := HLx.out; unfold maxLen; omega) Reads.none_ (Nat.zero_le _))
            have HSM := Lib.hid (fun (W : World) (hA : W.ownsRow 0 62 6 (.slice Ax (canT (siT q kx)).length cx) (canT (siT q kx)).length (nds (canT (siT q kx)))) => sModU_any op hux huy2 (siT q kx) HKx.out HLx.out Ax cx W hA)
            have hbo : ¬ (5 ≤ op ∧ op ≤ 8) := fun h => huy (by unfold usesY; simp; omega)
            rw [show simO op (siT q kx) noT = sModO op (siT q kx) noT from if_neg hbo] at HRES
            unfold nv at HREB
            dsimp only [List.length_nil] at HREB
            generalize rebF ⟨op, i, e, g, (kx : Int), yy⟩ (canT (siT q kx)) [] = rb at *
            generalize oL (sModO op (siT q kx) noT) = rl at *
            generalize canT (siT q kx) = lx at *
            clear hux huy huy2 HSB HSU HSLF HAT HSH HALL HKx hop21
            by_cases h5 : 5 ≤ op
            · have hd2 : decide (5 ≤ op) = true := decide_eq_true h5
              have hd1 : decide (op ≤ 8) = false := decide_eq_false (fun k => hbo ⟨h5, k⟩)
              clear hbo h5
              have HBX := Lib.hid (Box.made wr ⟨op, i, e, g, (kx : Int), yy⟩ 62)
              have HBA : Hid (Below wr.heap.size wr (wr.alloc (.cells #[.int .i64 op, .int .i64 i, .int .i64 e, .int .i64 g, .int .i64 (kx : Int), .int .i64 yy] 62))) := Lib.hid ((Below.refl _ wr).alloc (Nat.le_refl _) _)
              have HSA : Hid (wr.heap.size < (wr.alloc (.cells #[.int .i64 op, .int .i64 i, .int .i64 e, .int .i64 g, .int .i64 (kx : Int), .int .i64 yy] 62)).heap.size) := Lib.hid (by simp)
              go_wp2_with fail
              refine (HUX.out _).mono ?_
              rintro r w4 ⟨rfl, rfl⟩
              generalize wr.alloc (.cells #[.int .i64 op, .int .i64 i, .int .i64 e, .int .i64 g, .int .i64 (kx : Int), .int .i64 yy] 62) = w3 at *
              clear m0 m1 m2 m3 m4 m5 l1 l2 l3 l4 l5
              have hcx3 := (HBA.out.cell (p := ad.add kx) (by
                rcases Nat.lt_or_ge (ad.add kx).block wr.heap.size with h' | h'
                · exact h'
                · have := HCx.out; simp [World.cell?, Array.getElem?_eq_none h'] at this)).trans HCx.out
              have HBW3 := Lib.hid HBA.out
              have HSA3 := Lib.hid HSA.out
              have HBX3 := Lib.hid HBX.out
              obtain ⟨b0, b1, b2, b3, b4, b5, _⟩ := HBX.out
              go_wp2_with fail
              refine (HUY.out _).mono ?_
              rintro r w4 ⟨rfl, rfl⟩
              go_wp2_with fail
              refine (HSM.out w3 (own_keep1 HOx.out (fun g hg => HBW3.out.block g (HOx.out.lt g hg).2))).mono ?_
              rintro r w5 ⟨Ar5, cr5, rfl, ho, hb⟩
              have HOR5 := Lib.hid ho
              have HBX5 := Lib.hid (HBX3.out.keep (W' := w5) (hb.block _ HSA3.out))
              have HBW5 := Lib.hid (HBW3.out.trans (hb.mono (by have := HSA3.out; omega)))
              have HSA5 : Hid (wr.heap.size < w5.heap.size) := Lib.hid (Nat.lt_of_lt_of_le HSA3.out hb.size)
              clear ho hb b0 b1 b2 b3 b4 b5
              obtain ⟨b0, b1, b2, b3, b4, b5, _⟩ := HBX5.out
              clear hcx3
              by_cases hrl : rl = []
              · have HQ2 : Hid (sI = rb) := Lib.hid (HRES.out.2 hrl)
                have hz9 : ((rl.length : Int) == 0) = true := by rw [hrl]; rfl
                have hq2 := HQ2.out
                subst hq2
                clear hrl HRES HQ2
                go_wp2_with fail
                refine (HREB.out w5 (own_keep1 HOx.out (fun g hg => HBW5.out.block g (HOx.out.lt g hg).2))).mono ?_
                rintro r w8 ⟨Ar8, cr8, rfl, ho, hb⟩
                have HOR8 := Lib.hid ho
                have HBX8 := Lib.hid (HBX5.out.keep (W' := w8) (hb.block _ HSA5.out))
                have HBW8 := Lib.hid (HBW5.out.trans (hb.mono (by have := HSA5.out; omega)))
                have HSA8 : Hid (wr.heap.size < w8.heap.size) := Lib.hid (Nat.lt_of_lt_of_le HSA5.out hb.size)
                clear ho hb b0 b1 b2 b3 b4 b5
                obtain ⟨b0, b1, b2, b3, b4, b5, _⟩ := HBX8.out
                have HLJ8x := Lib.hid (HLJ.out.below HBW8.out)
                obtain ⟨vs, hown, hitr⟩ := (HLJ8x.out).row
                have HOW := Lib.hid hown
                have HITR := Lib.hid hitr
                have hll := HLEN.out
                have hsa := HSA8.out
                have HB8z : Hid (Below w2.heap.size w2 w8) := Lib.hid (HBI.out.trans (HBW8.out.mono hsz))
                clear hitr
                go_wp2_with (at_builtin; refine wpList_append_own _ rfl _ _ 29 rfl w2.heap.size 22 i0 (.slice none 0 0) 1 24 Tryd.underlying29 hi hz0 hz1 hz2 rfl (by decide) _ _ _ rfl ((hll ▸ hown).alloc _) ⟨w8.heap.size, 0, none⟩ 1 1 [.slice Ar8 sI.length cr8] rfl rfl ?k1 ?k2 ?k3 ?k4 ?k5 ?_)
                case k2 => intro u hu; simp at hu; subst hu; rfl
                case k3 => unfold maxLen; omega
                case k4 => omega
                case k5 => simp; omega
                case k1 =>
                  intro j' u hj'
                  match j', hj' with
                  | 0, hj' => simp at hj'; subst hj'; simp [Addr.add]
                · intro v' w9 hown' hgrow _
                  have HL9 : Hid (LL w9 w2.heap.size v' ln) := Lib.hid (by rw [HEXT.out]; exact LL.app HOW.out HITR.out HOR8.out (by rw [HLEN.out]; exact hown') hgrow)
                  have HB9 : Hid (Below w2.heap.size w2 w9) := Lib.hid ((HB8z.out.alloc (by omega) _).grown hgrow (by simp; omega) (fun g hg => (HOW.out.lt g hg).1))
                  clear hown' hgrow hown
                  go_wp2
                  go_roundw
                  case rel => exact ⟨j + 1, by omega, by go_num, by rw [HLN.out]; exact HL9, HB9⟩
                  case measure => first | (simp [intOf]; done) | (simp [intOf]; omega)
              · have HQ2 : Hid (sI = rl) := Lib.hid (HRES.out.1 hrl)
                have hz9 : ((rl.length : Int) == 0) = false := by
                  have h0 : rl.length ≠ 0 := by simpa using hrl
                  simpa using h0
                have hq2 := HQ2.out
                subst hq2
                clear hrl HRES HQ2
                have HLJ5x := Lib.hid (HLJ.out.below HBW5.out)
                obtain ⟨vs, hown, hitr⟩ := (HLJ5x.out).row
                have HOW := Lib.hid hown
                have HITR := Lib.hid hitr
                have hll := HLEN.out
                have hsa := HSA5.out
                have HB5z : Hid (Below w2.heap.size w2 w5) := Lib.hid (HBI.out.trans (HBW5.out.mono hsz))
                clear hitr
                go_wp2_with (at_builtin; refine wpList_append_own _ rfl _ _ 29 rfl w2.heap.size 22 i0 (.slice none 0 0) 1 24 Tryd.underlying29 hi hz0 hz1 hz2 rfl (by decide) _ _ _ rfl ((hll ▸ hown).alloc _) ⟨w5.heap.size, 0, none⟩ 1 1 [.slice Ar5 sI.length cr5] rfl rfl ?k1 ?k2 ?k3 ?k4 ?k5 ?_)
                case k2 => intro u hu; simp at hu; subst hu; rfl
                case k3 => unfold maxLen; omega
                case k4 => omega
                case k5 => simp; omega
                case k1 =>
                  intro j' u hj'
                  match j', hj' with
                  | 0, hj' => simp at hj'; subst hj'; simp [Addr.add]
                · intro v' w9 hown' hgrow _
                  have HL9 : Hid (LL w9 w2.heap.size v' ln) := Lib.hid (by rw [HEXT.out]; exact LL.app HOW.out HITR.out HOR5.out (by rw [HLEN.out]; exact hown') hgrow)
                  have HB9 : Hid (Below w2.heap.size w2 w9) := Lib.hid ((HB5z.out.alloc (by omega) _).grown hgrow (by simp; omega) (fun g hg => (HOW.out.lt g hg).1))
                  clear hown' hgrow hown
                  go_wp2
                  go_roundw
                  case rel => exact ⟨j + 1, by omega, by go_num, by rw [HLN.out]; exact HL9, HB9⟩
                  case measure => first | (simp [intOf]; done) | (simp [intOf]; omega)
            · have hd2 : decide (5 ≤ op) = false := decide_eq_false h5
              clear hbo h5
              have HBX := Lib.hid (Box.made wr ⟨op, i, e, g, (kx : Int), yy⟩ 62)
              have HBA : Hid (Below wr.heap.size wr (wr.alloc (.cells #[.int .i64 op, .int .i64 i, .int .i64 e, .int .i64 g, .int .i64 (kx : Int), .int .i64 yy] 62))) := Lib.hid ((Below.refl _ wr).alloc (Nat.le_refl _) _)
              have HSA : Hid (wr.heap.size < (wr.alloc (.cells #[.int .i64 op, .int .i64 i, .int .i64 e, .int .i64 g, .int .i64 (kx : Int), .int .i64 yy] 62)).heap.size) := Lib.hid (by simp)
              go_wp2_with fail
              refine (HUX.out _).mono ?_
              rintro r w4 ⟨rfl, rfl⟩
              generalize wr.alloc (.cells #[.int .i64 op, .int .i64 i, .int .i64 e, .int .i64 g, .int .i64 (kx : Int), .int .i64 yy] 62) = w3 at *
              clear m0 m1 m2 m3 m4 m5 l1 l2 l3 l4 l5
              have hcx3 := (HBA.out.cell (p := ad.add kx) (by
                rcases Nat.lt_or_ge (ad.add kx).block wr.heap.size with h' | h'
                · exact h'
                · have := HCx.out; simp [World.cell?, Array.getElem?_eq_none h'] at this)).trans HCx.out
              have HBW3 := Lib.hid HBA.out
              have HSA3 := Lib.hid HSA.out
              have HBX3 := Lib.hid HBX.out
              obtain ⟨b0, b1, b2, b3, b4, b5, _⟩ := HBX.out
              go_wp2_with fail
              refine (HUY.out _).mono ?_
              rintro r w4 ⟨rfl, rfl⟩
              go_wp2_with fail
              refine (HSM.out w3 (own_keep1 HOx.out (fun g hg => HBW3.out.block g (HOx.out.lt g hg).2))).mono ?_
              rintro r w5 ⟨Ar5, cr5, rfl, ho, hb⟩
              have HOR5 := Lib.hid ho
              have HBX5 := Lib.hid (HBX3.out.keep (W' := w5) (hb.block _ HSA3.out))
              have HBW5 := Lib.hid (HBW3.out.trans (hb.mono (by have := HSA3.out; omega)))
              have HSA5 : Hid (wr.heap.size < w5.heap.size) := Lib.hid (Nat.lt_of_lt_of_le HSA3.out hb.size)
              clear ho hb b0 b1 b2 b3 b4 b5
              obtain ⟨b0, b1, b2, b3, b4, b5, _⟩ := HBX5.out
              clear hcx3
              by_cases hrl : rl = []
              · have HQ2 : Hid (sI = rb) := Lib.hid (HRES.out.2 hrl)
                have hz9 : ((rl.length : Int) == 0) = true := by rw [hrl]; rfl
                have hq2 := HQ2.out
                subst hq2
                clear hrl HRES HQ2
                go_wp2_with fail
                refine (HREB.out w5 (own_keep1 HOx.out (fun g hg => HBW5.out.block g (HOx.out.lt g hg).2))).mono ?_
                rintro r w8 ⟨Ar8, cr8, rfl, ho, hb⟩
                have HOR8 := Lib.hid ho
                have HBX8 := Lib.hid (HBX5.out.keep (W' := w8) (hb.block _ HSA5.out))
                have HBW8 := Lib.hid (HBW5.out.trans (hb.mono (by have := HSA5.out; omega)))
                have HSA8 : Hid (wr.heap.size < w8.heap.size) := Lib.hid (Nat.lt_of_lt_of_le HSA5.out hb.size)
                clear ho hb b0 b1 b2 b3 b4 b5
                obtain ⟨b0, b1, b2, b3, b4, b5, _⟩ := HBX8.out
                have HLJ8x := Lib.hid (HLJ.out.below HBW8.out)
                obtain ⟨vs, hown, hitr⟩ := (HLJ8x.out).row
                have HOW := Lib.hid hown
                have HITR := Lib.hid hitr
                have hll := HLEN.out
                have hsa := HSA8.out
                have HB8z : Hid (Below w2.heap.size w2 w8) := Lib.hid (HBI.out.trans (HBW8.out.mono hsz))
                clear hitr
                go_wp2_with (at_builtin; refine wpList_append_own _ rfl _ _ 29 rfl w2.heap.size 22 i0 (.slice none 0 0) 1 24 Tryd.underlying29 hi hz0 hz1 hz2 rfl (by decide) _ _ _ rfl ((hll ▸ hown).alloc _) ⟨w8.heap.size, 0, none⟩ 1 1 [.slice Ar8 sI.length cr8] rfl rfl ?k1 ?k2 ?k3 ?k4 ?k5 ?_)
                case k2 => intro u hu; simp at hu; subst hu; rfl
                case k3 => unfold maxLen; omega
                case k4 => omega
                case k5 => simp; omega
                case k1 =>
                  intro j' u hj'
                  match j', hj' with
                  | 0, hj' => simp at hj'; subst hj'; simp [Addr.add]
                · intro v' w9 hown' hgrow _
                  have HL9 : Hid (LL w9 w2.heap.size v' ln) := Lib.hid (by rw [HEXT.out]; exact LL.app HOW.out HITR.out HOR8.out (by rw [HLEN.out]; exact hown') hgrow)
                  have HB9 : Hid (Below w2.heap.size w2 w9) := Lib.hid ((HB8z.out.alloc (by omega) _).grown hgrow (by simp; omega) (fun g hg => (HOW.out.lt g hg).1))
                  clear hown' hgrow hown
                  go_wp2
                  go_roundw
                  case rel => exact ⟨j + 1, by omega, by go_num, by rw [HLN.out]; exact HL9, HB9⟩
                  case measure => first | (simp [intOf]; done) | (simp [intOf]; omega)
              · have HQ2 : Hid (sI = rl) := Lib.hid (HRES.out.1 hrl)
                have hz9 : ((rl.length : Int) == 0) = false := by
                  have h0 : rl.length ≠ 0 := by simpa using hrl
                  simpa using h0
                have hq2 := HQ2.out
                subst hq2
                clear hrl HRES HQ2
                have HLJ5x := Lib.hid (HLJ.out.below HBW5.out)
                obtain ⟨vs, hown, hitr⟩ := (HLJ5x.out).row
                have HOW := Lib.hid hown
                have HITR := Lib.hid hitr
                have hll := HLEN.out
                have hsa := HSA5.out
                have HB5z : Hid (Below w2.heap.size w2 w5) := Lib.hid (HBI.out.trans (HBW5.out.mono hsz))
                clear hitr
                go_wp2_with (at_builtin; refine wpList_append_own _ rfl _ _ 29 rfl w2.heap.size 22 i0 (.slice none 0 0) 1 24 Tryd.underlying29 hi hz0 hz1 hz2 rfl (by decide) _ _ _ rfl ((hll ▸ hown).alloc _) ⟨w5.heap.size, 0, none⟩ 1 1 [.slice Ar5 sI.length cr5] rfl rfl ?k1 ?k2 ?k3 ?k4 ?k5 ?_)
                case k2 => intro u hu; simp at hu; subst hu; rfl
                case k3 => unfold maxLen; omega
                case k4 => omega
                case k5 => simp; omega
                case k1 =>
                  intro j' u hj'
                  match j', hj' with
                  | 0, hj' => simp at hj'; subst hj'; simp [Addr.add]
                · intro v' w9 hown' hgrow _
                  have HL9 : Hid (LL w9 w2.heap.size v' ln) := Lib.hid (by rw [HEXT.out]; exact LL.app HOW.out HITR.out HOR5.out (by rw [HLEN.out]; exact hown') hgrow)
                  have HB9 : Hid (Below w2.heap.size w2 w9) := Lib.hid ((HB5z.out.alloc (by omega) _).grown hgrow (by simp; omega) (fun g hg => (HOW.out.lt g hg).1))
                  clear hown' hgrow hown
                  go_wp2
                  go_roundw
                  case rel => exact ⟨j + 1, by omega, by go_num, by rw [HLN.out]; exact HL9, HB9⟩
                  case measure => first | (simp [intOf]; done) | (simp [intOf]; omega)
          · have hs1 := HSLF.out hux
            have huy : ¬ usesY op = true := fun h => hux (usesY_X h)
            have hux2 : usesX op = false := by simpa using hux
            have huy2 : usesY op = false := by simpa using huy
            rw [hux2] at HUX
            rw [huy2] at HUY
            have hop3 : op ≤ 3 := by unfold usesX at hux; simp at hux; omega
            have HSM := Lib.hid (fun (W : World) => sModNil_any op (by simp; omega) none none 0 0 0 0 W)
            have HREB := Lib.hid (fun (W : World) => reb_any ⟨op, i, e, g, x, yy⟩ hkn [] [] none none 0 0 W Reads.none_ (Nat.zero_le _) Reads.none_ (Nat.zero_le _))
            rw [← hs1] at HREB
            unfold nv at HREB
            dsimp only [List.length_nil] at HREB
            have hd2 : decide (5 ≤ op) = false := decide_eq_false (by omega)
            clear hux huy hux2 huy2 HSB HSU HSLF HAT HSH HALL hop21 hop3 hs1
            have HBX := Lib.hid (Box.made wr ⟨op, i, e, g, x, yy⟩ 62)
            have HBA : Hid (Below wr.heap.size wr (wr.alloc (.cells #[.int .i64 op, .int .i64 i, .int .i64 e, .int .i64 g, .int .i64 x, .int .i64 yy] 62))) := Lib.hid ((Below.refl _ wr).alloc (Nat.le_refl _) _)
            have HSA : Hid (wr.heap.size < (wr.alloc (.cells #[.int .i64 op, .int .i64 i, .int .i64 e, .int .i64 g, .int .i64 x, .int .i64 yy] 62)).heap.size) := Lib.hid (by simp)
            go_wp2_with fail
            refine (HUX.out _).mono ?_
            rintro r w4 ⟨rfl, rfl⟩
            generalize wr.alloc (.cells #[.int .i64 op, .int .i64 i, .int .i64 e, .int .i64 g, .int .i64 x, .int .i64 yy] 62) = w3 at *
            clear m0 m1 m2 m3 m4 m5 l1 l2 l3 l4 l5
            have HBW3 := Lib.hid HBA.out
            have HSA3 := Lib.hid HSA.out
            have HBX3 := Lib.hid HBX.out
            obtain ⟨b0, b1, b2, b3, b4, b5, _⟩ := HBX.out
            go_wp2_with fail
            refine (HUY.out _).mono ?_
            rintro r w4 ⟨rfl, rfl⟩
            go_wp2_with fail
            refine (HSM.out w3).mono ?_
            rintro r w4 ⟨rfl, rfl⟩
            go_wp2_with fail
            refine (HREB.out w3).mono ?_
            rintro r w8 ⟨Ar8, cr8, rfl, ho, hb⟩
            have HOR8 := Lib.hid ho
            have HBX8 := Lib.hid (HBX3.out.keep (W' := w8) (hb.block _ HSA3.out))
            have HBW8 := Lib.hid (HBW3.out.trans (hb.mono (by have := HSA3.out; omega)))
            have HSA8 : Hid (wr.heap.size < w8.heap.size) := Lib.hid (Nat.lt_of_lt_of_le HSA3.out hb.size)
            clear ho hb b0 b1 b2 b3 b4 b5
            obtain ⟨b0, b1, b2, b3, b4, b5, _⟩ := HBX8.out
            have HLJ8x := Lib.hid (HLJ.out.below HBW8.out)
            obtain ⟨vs, hown, hitr⟩ := (HLJ8x.out).row
            have HOW := Lib.hid hown
            have HITR := Lib.hid hitr
            have hll := HLEN.out
            have hsa := HSA8.out
            have HB8z : Hid (Below w2.heap.size w2 w8) := Lib.hid (HBI.out.trans (HBW8.out.mono hsz))
            clear hitr
            go_wp2_with (at_builtin; refine wpList_append_own _ rfl _ _ 29 rfl w2.heap.size 22 i0 (.slice none 0 0) 1 24 Tryd.underlying29 hi hz0 hz1 hz2 rfl (by decide) _ _ _ rfl ((hll ▸ hown).alloc _) ⟨w8.heap.size, 0, none⟩ 1 1 [.slice Ar8 sI.length cr8] rfl rfl ?k1 ?k2 ?k3 ?k4 ?k5 ?_)
            case k2 => intro u hu; simp at hu; subst hu; rfl
            case k3 => unfold maxLen; omega
            case k4 => omega
            case k5 => simp; omega
            case k1 =>
              intro j' u hj'
              match j', hj' with
              | 0, hj' => simp at hj'; subst hj'; simp [Addr.add]
            · intro v' w9 hown' hgrow _
              have HL9 : Hid (LL w9 w2.heap.size v' ln) := Lib.hid (by rw [HEXT.out]; exact LL.app HOW.out HITR.out HOR8.out (by rw [HLEN.out]; exact hown') hgrow)
              have HB9 : Hid (Below w2.heap.size w2 w9) := Lib.hid ((HB8z.out.alloc (by omega) _).grown hgrow (by simp; omega) (fun g hg => (HOW.out.lt g hg).1))
              clear hown' hgrow hown
              go_wp2
              go_roundw
              case rel => exact ⟨j + 1, by omega, by go_num, by rw [HLN.out]; exact HL9, HB9⟩
              case measure => first | (simp [intOf]; done) | (simp [intOf]; omega)
      · obtain rfl : j = q.length := by omega
        obtain ⟨m, hm1⟩ : ∃ m, q.length = m + 1 := ⟨q.length - 1, by have := List.length_pos_iff.2 HS.out.ok.ne; omega⟩
        have hmq : m < q.length := by omega
        obtain ⟨ad, Ax, cx, rfl, hcx, hox⟩ := HIT.out m hmq
        have hlast := HS.out.last
        rw [show q.length - 1 = m from by omega, HRF.out] at hlast
        rw [siL_at q hmq, hlast] at hcx hox
        have HRX := Lib.hid (Reads.of_own hox)
        have hne : rf.length ≠ 0 := by
          rw [← hlast]
          simpa using canT_ne (siT q m)
        have hw1 : wrap64 ((q.length : Int) - 1) = (m : Int) := by unfold wrap64; omega
        have hw2 : IntKind.i64.wrap ((q.length : Int) - 1) = (m : Int) := by rw [IntKind.wrap_i64]; omega
        have hw3 : (q.length : Int) - 1 = (m : Int) := by omega
        have hw4 : wrap64 (m : Int) = (m : Int) := by unfold wrap64; omega
        clear hox hlast hm1
        go_wp2_with fail
        refine (done_ok Ax rf.length cx wr hne).mono ?_
        rintro r w4 ⟨rfl, rfl⟩
        go_wp2
        go_ret2
        exact ⟨Ax, cx, rfl, HRX.out, HB3.out⟩
  · have e1 : mapF (mapT simT) f = [] := if_neg hz
    have e2 : mapE (mapT simT) f = fErr f := if_neg hz
    rw [e1, e2]
    clear hR hm e1 e2
    generalize fErr f = ef at *
    go_enter Tryd.func17, Tryd.ntmps17
    go_wp2_with fail
    refine (HV.out).mono ?_
    rintro e w1 ⟨rfl, hb⟩
    have HB1 := Lib.hid hb
    clear hb
    go_wp2
    go_ret2
    exact ⟨none, 0, rfl, Reads.none_, HB1.out⟩
end Go.Proofs.YtkkkomkljpolbaaDoor
