/- Layer 17: the sets of all nodes, by the reference. -/
import Derived.Test.YtjpmhbnikoggaaaGreatDoorCo
import Derived.Test.YtjpmhbnikoggaaaGreatDoorNKe
namespace Go.Proofs.YtjpmhbnikoggaaaGreatDoor
open Go.RowKit Go.Proofs.Ws
set_option maxRecDepth 100000
/-- one word more at the end of a row of its own -/
theorem wp_app64 {ops : Array Oper} {rest : List Oper} {o : Oper} {a : Act} {Q : Exit → Act → World → Prop} {l : List Nat} (z : Nat) (W : World) (hgd : o.guard = none) (s x : Operand)
    (ho : o.op = .call { callee := .builtin .append, args := #[s, x], argTypes := #[22, 22] }) (base b : Nat) (v : Value)
    (hs : a.eval s = v) (hown : W.ownsRow base 37 1 v l.length (us l)) (hx : a.eval x = .slice (some ⟨b, 0, none⟩) 1 1)
    (hc : W.cell? ⟨b, 0, none⟩ = some (.int .u64 (z : Int))) (hl : l.length ≤ 1000) (hbase : base ≤ W.heap.size)
    (h : ∀ v' w', w'.ownsRow base 37 1 v' (l.length + 1) (us (l ++ [z])) → W.grownBy w' v.ownBlock → wpList Tryz.prog ops Q rest (a.put o.dst v') w') : wpList Tryz.prog ops Q (o :: rest) a W := by
  obtain ⟨i0, hi, hz0, hz1, hz2⟩ := info_parts Tryz.infoU
  refine wpList_append_own W hgd s x 22 ho base 37 i0 (.int .u64 0) 1 8 Tryz.underlying22 hi hz0 hz1 hz2 rfl (by decide) v l.length (us l) hs hown ⟨b, 0, none⟩ 1 1 [.int .u64 (z : Int)] hx rfl ?_ ?_ (by unfold maxLen; omega) (by omega) hbase ?_
  · intro j u hj
    match j, hj with
    | 0, hj =>
      injection hj with hj
      subst hj
      exact hc
  · intro u hu
    simp at hu
    subst hu
    rfl
  · intro v' w' h1 h2 _
    refine h v' w' ?_ h2
    have e : us (l ++ [z]) = us l ++ [.int .u64 (z : Int)] := by unfold us; simp
    rw [e]
    exact h1
theorem addr_zeroC (b : Nat) : (⟨b, 0, none⟩ : Addr).add 0 = ⟨b, 0, none⟩ := rfl
theorem step_appC {ops : Array Oper} {o : Oper} {a : Act} {K : Act → World → Prop} {Q : Exit → Act → World → Prop} {E : Prop} {l : List Nat} (n v : Nat) (W : World) (hgd : o.guard = none) (s x : Operand)
    (ho : o.op = .call { callee := .builtin .append, args := #[s, x], argTypes := #[22, 22] }) (base b : Nat) (V : Value)
    (hs : a.eval s = V) (hown : W.ownsRow base 37 1 V n (us l)) (hx : a.eval x = .slice (some ⟨b, 0, none⟩) 1 1)
    (hc : W.cell? ⟨b, 0, none⟩ = some (.int .u64 (v : Int))) (hl : n ≤ 1000000) (hbase : base ≤ W.heap.size)
    (h : ∀ g cap w', w'.ownsRow base 37 1 (.slice (some ⟨g, 0, none⟩) (n + 1) cap) (n + 1) (us (l ++ [v])) → W.grownBy w' V.ownBlock → (V.ownBlock = some g ∨ W.heap.size ≤ g) → g < w'.heap.size → K (a.put o.dst (.slice (some ⟨g, 0, none⟩) (n + 1) cap)) w') :
    if Region.wanted o (yielded ops a.tmps) = true then Oper.wp Tryz.prog o a W K Q else E := by
  obtain ⟨i0, hi, hz0, hz1, hz2⟩ := info_parts Tryz.infoU
  refine step_append_lies W hgd s x 22 ho base 37 i0 _ 1 8 Tryz.underlying22 hi hz0 hz1 hz2 rfl (by decide) V n (us l) hs hown ⟨b, 0, none⟩ 1 1 [.int .u64 (v : Int)] hx rfl ?_ ?_ (by decide) (by unfold maxLen; omega) (by omega) hbase _ rfl ?_
  · intro j u hj
    cases j with
    | zero => simp at hj; subst hj; rw [addr_zeroC]; exact hc
    | succ j => simp at hj
  · intro u hu
    rw [List.mem_singleton.1 hu]; rfl
  · intro g cap w' h1 h2 h3 h4
    exact h g cap w' (by rw [us_appC]; exact h1) h2 (h3.imp id (fun e => by omega)) h4
section
variable {m : Mo} {f : List Nd} (hf : opsL f) {k : Nat} (hk : k < f.length) (hh : hasT m.rel.length m.val.length (treeAt f k) = true)
include hf hk hh
theorem one_xy : setN m (f.getD k nd0) ((valsL m f k).getD (f.getD k nd0).x.toNat 0) ((valsL m f k).getD (f.getD k nd0).y.toNat 0) = valT m (treeAt f k) := by
  rw [setN_acc hf hk hh, valT, if_pos hh]
theorem one_x (hy : usesY (f.getD k nd0).op = false) : setN m (f.getD k nd0) ((valsL m f k).getD (f.getD k nd0).x.toNat 0) 0 = valT m (treeAt f k) := by
  rw [← one_xy hf hk hh]
  conv => rhs; rw [setN_un hy]
theorem one_0 (hx : usesX (f.getD k nd0).op = false) : setN m (f.getD k nd0) 0 0 = valT m (treeAt f k) := by
  rw [← one_xy hf hk hh]
  conv => rhs; rw [setN_leaf hx]
end
set_option maxHeartbeats 8000000 in
theorem rSetsBad_any (m : Mo) (v : Value) (f : List Nd) (A : Option Addr) (n c : Nat) (w : World) (hM : MoR w w.heap.size v m) (hR : Reads w w.heap.size 6 A n (nds f)) (hn : n ≤ maxLen) (hz : chkF m f ≠ 0) :
    Calls Tryz.prog 29 #[v, .slice A n c] w (GivesT m f w) := by
  obtain ⟨A1, c1, A2, c2, rfl, hv, hr⟩ := hM.ex
  have HB0 := Lib.hid ((Below.refl w.heap.size w).alloc (Nat.le_refl _) (.cells #[.int .i64 m.n, .slice A1 m.val.length c1, .slice A2 m.rel.length c2] 25))
  have HC := Lib.hid (fun W (hb : Below w.heap.size w W) => rChkC_any m _ f A n c W (hM.below hb hb.size) ((hR.below hb).more hb.size) hn)
  have HG := Lib.hid (fun (e : Ending) (w' : World) => GivesT.none (m := m) (f := f) (w := w) (w' := w') (e := e) hz)
  have hz1 : (chkF m f != 0) = true := by rw [bne_iff_ne]; exact hz
  clear hM hR hn hz hv hr
  generalize GivesT m f w = G at *
  generalize chkF m f = z at *
  change Calls _ _ _ _ (fun e w' => G e w')
  go_enter Tryz.func29, Tryz.ntmps29
  go_wp2_with fail
  refine (HC.out _ HB0.out).mono ?_
  rintro e w1 ⟨rfl, hb⟩
  have HB1 := Lib.hid (HB0.out.trans (hb.mono HB0.out.size))
  clear hb
  go_wp2
  exact HG.out _ _ rfl HB1.out
set_option maxHeartbeats 16000000 in
theorem rSetsOk_any (m : Mo) (v : Value) (f : List Nd) (A : Option Addr) (n c : Nat) (w : World) (hM : MoR w w.heap.size v m) (hR : Reads w w.heap.size 6 A n (nds f)) (hn : n ≤ maxLen) (hz : chkF m f = 0) :
    Calls Tryz.prog 29 #[v, .slice A n c] w (GivesT m f w) := by
  obtain ⟨A1, c1, A2, c2, rfl, hv, hr⟩ := hM.ex
  have hlen := hR.nd_len
  have hcz := chkF_zero hz
  have hf0 := hcz.2.1
  have hn200 : n ≤ 200 := by rw [← hlen]; exact (fErr_ok hf0).2.1
  have hops := fErr_ops hf0
  have HB0 := Lib.hid ((Below.refl w.heap.size w).alloc (Nat.le_refl _) (.cells #[.int .i64 m.n, .slice A1 m.val.length c1, .slice A2 m.rel.length c2] 25))
  have KB0 := Lib.hid (MBox.made w m.n (.slice A1 m.val.length c1) (.slice A2 m.rel.length c2))
  have HC := Lib.hid (fun W (hb : Below w.heap.size w W) => rChkC_any m _ f A n c W (hM.below hb hb.size) ((hR.below hb).more hb.size) hn)
  have HG := Lib.hid (fun (e : Ending) (w' : World) (A' : Option Addr) (c' k : Nat) (hk : f.length = k) => GivesT.some (m := m) (f := f) (w := w) (w' := w') (e := e) (A := A') (c := c') hz hk)
  have HFI := Lib.hid (fun (k : Nat) (hk : k < n) W (hb : Below w.heap.size w W) => rFitsC_any m _ f k A n c W (hM.below hb hb.size) ((hR.below hb).more hb.size) hn hcz.1 hf0 (by omega))
  have HKN := Lib.hid (fun (k : Nat) (hk : k < n) => (fErr_fld hf0 (f.getD k nd0) (Ws.getD_mem (by omega))).1)
  have HONE := Lib.hid (fun (k : Nat) (hk : k < n) (hh : hasT m.rel.length m.val.length (treeAt f k) = true) (x y : Nat) (hx : x < 18446744073709551616) (hy : y < 18446744073709551616) W (hb : Below w.heap.size w W) => rOneN_any m _ W (hM.below hb hb.size) hcz.1 (f.getD k nd0) (fErr_fld hf0 _ (Ws.getD_mem (by omega))) ((hasN_parts.1 ((hasN_acc hops (by omega)).trans hh)).1) x y hx hy)
  have HVW := Lib.hid (fun k j => words_getD (valsL_words hM.wval f k) j)
  have HXY := Lib.hid (fun (k : Nat) (hk : k < n) => one_xy (m := m) hops (k := k) (by omega))
  have HX0 := Lib.hid (fun (k : Nat) (hk : k < n) => one_x (m := m) hops (k := k) (by omega))
  have H00 := Lib.hid (fun (k : Nat) (hk : k < n) => one_0 (m := m) hops (k := k) (by omega))
  have HOX := Lib.hid (fun (k : Nat) (hk : k < n) (h : usesX (f.getD k nd0).op = true) => (show 0 ≤ (f.getD k nd0).x ∧ (f.getD k nd0).x < (k : Int) by have h9 := (hops k (by omega)).1; rw [if_pos h] at h9; exact h9))
  have HOY := Lib.hid (fun (k : Nat) (hk : k < n) (h : usesY (f.getD k nd0).op = true) => (show 0 ≤ (f.getD k nd0).y ∧ (f.getD k nd0).y < (k : Int) by have h9 := (hops k (by omega)).2; rw [if_pos h] at h9; exact h9))
  have HVS := Lib.hid (fun k => valsL_succ m f k)
  have HVL := Lib.hid (fun k => valsL_len m f k)
  have HVT : Hid (∀ k, hasT m.rel.length m.val.length (treeAt f k) = false → valT m (treeAt f k) = 0) := Lib.hid (fun k h => by unfold valT; rw [h]; rfl)
  have HR := Lib.hid hR
  have HLEN := Lib.hid hlen
  clear hM hR hv hr hcz hf0 hops hlen hn
  rw [hz] at HC
  clear hz
  generalize GivesT m f w = G at *
  change Calls _ _ _ _ (fun e w' => G e w')
  go_enter Tryz.func29, Tryz.ntmps29
  go_wp2_with fail
  refine (HC.out _ HB0.out).mono ?_
  rintro e w1 ⟨rfl, hb⟩
  have HB1 := Lib.hid (HB0.out.trans (hb.mono HB0.out.size))
  have KB1 := Lib.hid (KB0.out.below hb KB0.out.lt)
  have HSZ1 : Hid (w.heap.size + 1 ≤ w1.heap.size) := Lib.hid (Nat.lt_of_lt_of_le KB0.out.lt hb.size)
  clear hb HC HB0 KB0
  have HR1 : Hid (Below (w.heap.size + 1) w1 w1) := Lib.hid (Below.refl _ _)
  go_wp2
  go_loopw [7, 8, 9, 10] (fun V i _ _ wr => ∃ k : Nat, k ≤ n ∧ i = .int .i64 k ∧ Hid (wr.ownsRow (w.heap.size + 1) 37 1 V (valsL m f k).length (us (valsL m f k))) ∧ Hid (Below (w.heap.size + 1) w1 wr)) (fun _ i _ _ _ => n - (intOf i).toNat)
  case atStart => exact ⟨0, Nat.zero_le _, rfl, Lib.hid (World.ownsRow_nil _ _ _ _), HR1⟩
  case round =>
    obtain ⟨k, hk, rfl, HO, HBk⟩ := hrel
    have HBw := Lib.hid (HB1.out.trans (HBk.out.mono (by omega)))
    have KBk := Lib.hid (KB1.out.below HBk.out (by omega))
    have hszk : w.heap.size + 1 ≤ wr.heap.size := Nat.le_trans HSZ1.out HBk.out.size
    have HSZk := Lib.hid hszk
    by_cases hlt : k < n
    · obtain ⟨ad, rfl, hbl, m0, m1, m2, m3, m4, m5⟩ := ((HR.out.below HBw.out).more HBw.out.size).nd_at hlt
      have HF := Lib.hid (HFI.out k hlt wr HBw.out)
      have HK := Lib.hid (HKN.out k hlt)
      have HOk := Lib.hid (HONE.out k hlt)
      have HXYk := Lib.hid (HXY.out k hlt)
      have HX0k := Lib.hid (HX0.out k hlt)
      have H00k := Lib.hid (H00.out k hlt)
      have HOXk := Lib.hid (HOX.out k hlt)
      have HOYk := Lib.hid (HOY.out k hlt)
      have HVTk := Lib.hid (HVT.out k)
      have HVWk := Lib.hid (HVW.out k)
      have hLL : (valsL m f k).length = k := HVL.out k
      have HNX : Hid (∀ (V : Value) (W : World), W.ownsRow (w.heap.size + 1) 37 1 V ((valsL m f k).length + 1) (us (valsL m f k ++ [valT m (treeAt f k)])) → W.ownsRow (w.heap.size + 1) 37 1 V (valsL m f (k + 1)).length (us (valsL m f (k + 1)))) := Lib.hid (fun V W h => by
        rw [HVS.out, List.length_append]
        exact h)
      have b0 := KBk.out.c0
      have b1 := KBk.out.c1
      have b2 := KBk.out.c2
      obtain ⟨Av, cv, hV⟩ := own_slK HO.out
      rw [hLL] at hV
      subst hV
      have HLL := Lib.hid hLL
      have hL2 : (valsL m f k).length ≤ 1000 := by omega
      clear hLL
      generalize hLv : valsL m f k = L at *
      have HLV := Lib.hid hLv
      clear hLv
      generalize hva : valT m (treeAt f k) = va at *
      clear hva
      generalize f.getD k nd0 = y at *
      cases hb : hasT m.rel.length m.val.length (treeAt f k) with
      | false =>
        rw [hb] at HF
        have HVZ : Hid (va = 0) := Lib.hid (HVTk.out hb)
        clear hb m0 m1 m2 m3 m4 m5
        go_wp2_with fail
        refine (HF.out).mono ?_
        rintro e w2 ⟨rfl, hb⟩
        have HB2 := Lib.hid (HBk.out.trans (hb.mono HSZk.out))
        have HO2 := Lib.hid (own_keep1K HO.out (fun j hj => hb.block j (HO.out.lt j hj).2))
        have hsz2 : w.heap.size + 1 ≤ w2.heap.size := Nat.le_trans HSZk.out hb.size
        clear hb HF b0 b1 b2
        have HO2k : Hid (w2.ownsRow (w.heap.size + 1) 37 1 (.slice Av k cv) L.length (us L)) := HO2
        go_wp2_with (at_builtin; refine wp_app64 (l := L) 0 _ rfl _ _ rfl (w.heap.size + 1) w2.heap.size _ rfl (HO2k.out.alloc _) rfl ?c1 hL2 ?c3 ?_)
        case c1 => exact (Lib.cell_of_heap (heap_alloc_new w2 _) 0).trans rfl
        case c3 => simp; omega
        intro v5 w5 ho5 hgr
        have HO5 := Lib.hid (HNX.out v5 w5 (by rw [HVZ.out]; exact ho5))
        have HB5 := Lib.hid ((HB2.out.alloc hsz2 _).grown hgr (by simp; omega) (fun j hj => (HO2.out.lt j hj).1))
        clear ho5 hgr hsz2
        go_wp2
        go_roundw
        case rel => exact ⟨k + 1, by omega, by go_num, HO5, HB5⟩
        case measure => simp [intOf]; omega
      | true =>
        rw [hb] at HF
        have HHB := Lib.hid hb
        clear hb
        have l1 := add_cell m1
        have l2 := add_cell m2
        have l3 := add_cell m3
        have l4 := add_cell m4
        have l5 := add_cell m5
        cases hux : usesX y.op with
        | false =>
          have huy : usesY y.op = false := by
            cases e : usesY y.op with
            | false => rfl
            | true => exact absurd (usesY_X e) (by rw [hux]; decide)
          have HUX : Hid (∀ W, Calls Tryz.prog 73 #[.int .i64 y.op] W fun e w' => e = .returned (.bool false) ∧ W = w') := Lib.hid (fun W => hux ▸ rUsesX_any y.op HK.out W)
          have HUY : Hid (∀ W, Calls Tryz.prog 74 #[.int .i64 y.op] W fun e w' => e = .returned (.bool false) ∧ W = w') := Lib.hid (fun W => huy ▸ rUsesY_any y.op HK.out W)
          have hval : setN m y 0 0 = va := H00k.out HHB.out hux
          have HOC := Lib.hid (HOk.out HHB.out 0 0 (by decide) (by decide))
          rw [hval] at HOC
          clear hval hux huy
          go_wp2_with fail
          refine (HF.out).mono ?_
          rintro e w2 ⟨rfl, hb⟩
          have HB2 := Lib.hid (HBk.out.trans (hb.mono HSZk.out))
          have HB2w := Lib.hid (HBw.out.trans (hb.mono HBw.out.size))
          have HO2 := Lib.hid (own_keep1K HO.out (fun j hj => hb.block j (HO.out.lt j hj).2))
          have hsz2 : w.heap.size + 1 ≤ w2.heap.size := Nat.le_trans HSZk.out hb.size
          have KB2 := Lib.hid (KBk.out.below hb (Nat.lt_of_lt_of_le (Nat.lt_succ_self _) HSZk.out))
          have hbw : ∀ p : Addr, p.block < wr.heap.size → w2.cell? p = wr.cell? p := fun p hp => hb.cell hp
          have M0 := (hbw (ad.add (k * 6)) (by rw [block_of_add]; exact hbl)).trans m0
          have M1 := (hbw (ad.add (k * 6 + 1)) (by rw [block_of_add]; exact hbl)).trans m1
          have M2 := (hbw (ad.add (k * 6 + 2)) (by rw [block_of_add]; exact hbl)).trans m2
          have M3 := (hbw (ad.add (k * 6 + 3)) (by rw [block_of_add]; exact hbl)).trans m3
          have M4 := (hbw (ad.add (k * 6 + 4)) (by rw [block_of_add]; exact hbl)).trans m4
          have M5 := (hbw (ad.add (k * 6 + 5)) (by rw [block_of_add]; exact hbl)).trans m5
          clear hbw hb HF b0 b1 b2 m0 m1 m2 m3 m4 m5 l1 l2 l3 l4 l5
          have N1 := add_cell M1
          have N2 := add_cell M2
          have N3 := add_cell M3
          have N4 := add_cell M4
          have N5 := add_cell M5
          go_wp2_with fail
          refine (HUX.out _).mono ?_
          rintro e w3 ⟨rfl, rfl⟩
          go_wp2_with fail
          refine (HUY.out _).mono ?_
          rintro e w3 ⟨rfl, rfl⟩
          clear HUX HUY
          have c0 : w2.drew.cell? _ = _ := KB2.out.c0
          have c1_ : w2.drew.cell? _ = _ := KB2.out.c1
          have c2_ : w2.drew.cell? _ = _ := KB2.out.c2
          have P0 : w2.drew.cell? _ = _ := M0
          have P1 : w2.drew.cell? _ = _ := M1
          have P2 : w2.drew.cell? _ = _ := M2
          have P3 : w2.drew.cell? _ = _ := M3
          have P4 : w2.drew.cell? _ = _ := M4
          have P5 : w2.drew.cell? _ = _ := M5
          have Q1 : w2.drew.cell? _ = _ := N1
          have Q2 : w2.drew.cell? _ = _ := N2
          have Q3 : w2.drew.cell? _ = _ := N3
          have Q4 : w2.drew.cell? _ = _ := N4
          have Q5 : w2.drew.cell? _ = _ := N5
          have HOd : Hid (w2.drew.ownsRow (w.heap.size + 1) 37 1 (.slice Av k cv) L.length (us L)) := Lib.hid (own_keep1K HO2.out (fun j hj => rfl))
          have HOC2 := Lib.hid (HOC.out w2.drew HB2w.out.drew)
          go_wp2
          go_region_law (first | (go_simp; go_at_call 75; refine (HOC2.out).mono ?_; rintro e w9 ⟨rfl, hb9⟩; have HO9 := Lib.hid (own_keep1K HOd.out (fun j hj => hb9.block j (HOd.out.lt j hj).2)); have hsz9 := hb9.size; have HSZ9 : Hid (∀ o, w.heap.size + 1 ≤ (w9.alloc o).heap.size) := Lib.hid (fun o => by have h9 : w.heap.size + 1 ≤ w9.heap.size := Nat.le_trans hsz2 hsz9; have h8 : (w9.alloc o).heap.size = w9.heap.size + 1 := (by simp); omega)) | (refine step_appC (l := L) k va _ (by rfl) _ _ (by rfl) (w.heap.size + 1) _ _ (by rfl) (HLL.out ▸ (HO9.out.alloc _)) (by rfl) (by go_simp) (by omega) (HSZ9.out _) ?_; intro g5 c5 w5 ho5 hgr hr5 hl5))
          all_goals
            have HO5 := Lib.hid (HNX.out _ w5 (by rw [HLL.out]; exact ho5))
            have HB9 := Lib.hid (HB2.out.drew.trans (hb9.mono (show w.heap.size + 1 ≤ w2.drew.heap.size from hsz2)))
            have HB5 := Lib.hid ((HB9.out.alloc (Nat.le_trans hsz2 hb9.size) _).grown hgr (by have h9 := hb9.size; simp at h9 ⊢; omega) (fun j hj => (HOd.out.lt j hj).1))
            clear ho5 hgr hb9 hr5 hl5 hsz9 c0 c1_ c2_ P0 P1 P2 P3 P4 P5 Q1 Q2 Q3 Q4 Q5 M0 M1 M2 M3 M4 M5 N1 N2 N3 N4 N5
            go_wp2
            go_roundw
            case rel => exact ⟨k + 1, by omega, by go_num, HO5, HB5⟩
            case measure => simp [intOf]; omega
        | true =>
          cases huy : usesY y.op with
          | false =>
            have HUX : Hid (∀ W, Calls Tryz.prog 73 #[.int .i64 y.op] W fun e w' => e = .returned (.bool true) ∧ W = w') := Lib.hid (fun W => hux ▸ rUsesX_any y.op HK.out W)
            have HUY : Hid (∀ W, Calls Tryz.prog 74 #[.int .i64 y.op] W fun e w' => e = .returned (.bool false) ∧ W = w') := Lib.hid (fun W => huy ▸ rUsesY_any y.op HK.out W)
            have hxo := HOXk.out hux
            obtain ⟨xk, hxk⟩ : ∃ xk : Nat, y.x = (xk : Int) := ⟨y.x.toNat, by omega⟩
            have hxk2 : xk < k := by omega
            have hxt : y.x.toNat = xk := by rw [hxk]; rfl
            have hval : setN m y (L.getD xk 0) 0 = va := by rw [← hxt]; exact HX0k.out HHB.out huy
            have HOC := Lib.hid (HOk.out HHB.out (L.getD xk 0) 0 (HVWk.out xk) (by decide))
            rw [hval] at HOC
            clear hval hux huy
            rw [hxk] at m4 l4
            clear hxo hxt
            have HXK := Lib.hid hxk
            go_wp2_with fail
            refine (HF.out).mono ?_
            rintro e w2 ⟨rfl, hb⟩
            have HB2 := Lib.hid (HBk.out.trans (hb.mono HSZk.out))
            have HB2w := Lib.hid (HBw.out.trans (hb.mono HBw.out.size))
            have HO2 := Lib.hid (own_keep1K HO.out (fun j hj => hb.block j (HO.out.lt j hj).2))
            have hsz2 : w.heap.size + 1 ≤ w2.heap.size := Nat.le_trans HSZk.out hb.size
            have KB2 := Lib.hid (KBk.out.below hb (Nat.lt_of_lt_of_le (Nat.lt_succ_self _) HSZk.out))
            have hbw : ∀ p : Addr, p.block < wr.heap.size → w2.cell? p = wr.cell? p := fun p hp => hb.cell hp
            have M0 := (hbw (ad.add (k * 6)) (by rw [block_of_add]; exact hbl)).trans m0
            have M1 := (hbw (ad.add (k * 6 + 1)) (by rw [block_of_add]; exact hbl)).trans m1
            have M2 := (hbw (ad.add (k * 6 + 2)) (by rw [block_of_add]; exact hbl)).trans m2
            have M3 := (hbw (ad.add (k * 6 + 3)) (by rw [block_of_add]; exact hbl)).trans m3
            have M4 := (hbw (ad.add (k * 6 + 4)) (by rw [block_of_add]; exact hbl)).trans m4
            have M5 := (hbw (ad.add (k * 6 + 5)) (by rw [block_of_add]; exact hbl)).trans m5
            clear hbw hb HF b0 b1 b2 m0 m1 m2 m3 m4 m5 l1 l2 l3 l4 l5
            have N1 := add_cell M1
            have N2 := add_cell M2
            have N3 := add_cell M3
            have N4 := add_cell M4
            have N5 := add_cell M5
            have hrd2 := HO2.out
            rw [HLL.out] at hrd2
            obtain ⟨av, ha, _, hcx⟩ := (Reads.of_own hrd2).word_k (show xk < k by omega)
            subst ha
            clear hrd2
            generalize L.getD xk 0 = X at *
            go_wp2_with fail
            refine (HUX.out _).mono ?_
            rintro e w3 ⟨rfl, rfl⟩
            go_wp2_with fail
            refine (HUY.out _).mono ?_
            rintro e w3 ⟨rfl, rfl⟩
            clear HUX HUY
            have c0 : w2.drew.cell? _ = _ := KB2.out.c0
            have c1_ : w2.drew.cell? _ = _ := KB2.out.c1
            have c2_ : w2.drew.cell? _ = _ := KB2.out.c2
            have P0 : w2.drew.cell? _ = _ := M0
            have P1 : w2.drew.cell? _ = _ := M1
            have P2 : w2.drew.cell? _ = _ := M2
            have P3 : w2.drew.cell? _ = _ := M3
            have P4 : w2.drew.cell? _ = _ := M4
            have P5 : w2.drew.cell? _ = _ := M5
            have Q1 : w2.drew.cell? _ = _ := N1
            have Q2 : w2.drew.cell? _ = _ := N2
            have Q3 : w2.drew.cell? _ = _ := N3
            have Q4 : w2.drew.cell? _ = _ := N4
            have Q5 : w2.drew.cell? _ = _ := N5
            have HOd : Hid (w2.drew.ownsRow (w.heap.size + 1) 37 1 (.slice (some av) k cv) L.length (us L)) := Lib.hid (own_keep1K HO2.out (fun j hj => rfl))
            have HOC2 := Lib.hid (HOC.out w2.drew HB2w.out.drew)
            rw [HXK.out] at HOC2
            clear hcx
            go_wp2
            go_region_law (first | (go_simp; go_at_call 75; refine (HOC2.out).mono ?_; rintro e w9 ⟨rfl, hb9⟩; have HO9 := Lib.hid (own_keep1K HOd.out (fun j hj => hb9.block j (HOd.out.lt j hj).2)); have hsz9 := hb9.size; have HSZ9 : Hid (∀ o, w.heap.size + 1 ≤ (w9.alloc o).heap.size) := Lib.hid (fun o => by have h9 : w.heap.size + 1 ≤ w9.heap.size := Nat.le_trans hsz2 hsz9; have h8 : (w9.alloc o).heap.size = w9.heap.size + 1 := (by simp); omega)) | (refine step_appC (l := L) k va _ (by rfl) _ _ (by rfl) (w.heap.size + 1) _ _ (by rfl) (HLL.out ▸ (HO9.out.alloc _)) (by rfl) (by go_simp) (by omega) (HSZ9.out _) ?_; intro g5 c5 w5 ho5 hgr hr5 hl5))
            all_goals
              have HO5 := Lib.hid (HNX.out _ w5 (by rw [HLL.out]; exact ho5))
              have HB9 := Lib.hid (HB2.out.drew.trans (hb9.mono (show w.heap.size + 1 ≤ w2.drew.heap.size from hsz2)))
              have HB5 := Lib.hid ((HB9.out.alloc (Nat.le_trans hsz2 hb9.size) _).grown hgr (by have h9 := hb9.size; simp at h9 ⊢; omega) (fun j hj => (HOd.out.lt j hj).1))
              clear ho5 hgr hb9 hr5 hl5 hsz9 c0 c1_ c2_ P0 P1 P2 P3 P4 P5 Q1 Q2 Q3 Q4 Q5 M0 M1 M2 M3 M4 M5 N1 N2 N3 N4 N5
              go_wp2
              go_roundw
              case rel => exact ⟨k + 1, by omega, by go_num, HO5, HB5⟩
              case measure => simp [intOf]; omega
          | true =>
            have HUX : Hid (∀ W, Calls Tryz.prog 73 #[.int .i64 y.op] W fun e w' => e = .returned (.bool true) ∧ W = w') := Lib.hid (fun W => hux ▸ rUsesX_any y.op HK.out W)
            have HUY : Hid (∀ W, Calls Tryz.prog 74 #[.int .i64 y.op] W fun e w' => e = .returned (.bool true) ∧ W = w') := Lib.hid (fun W => huy ▸ rUsesY_any y.op HK.out W)
            have hxo := HOXk.out hux
            obtain ⟨xk, hxk⟩ : ∃ xk : Nat, y.x = (xk : Int) := ⟨y.x.toNat, by omega⟩
            have hxk2 : xk < k := by omega
            have hxt : y.x.toNat = xk := by rw [hxk]; rfl
            have hyo := HOYk.out huy
            obtain ⟨yk, hyk⟩ : ∃ yk : Nat, y.y = (yk : Int) := ⟨y.y.toNat, by omega⟩
            have hyk2 : yk < k := by omega
            have hyt : y.y.toNat = yk := by rw [hyk]; rfl
            have hval : setN m y (L.getD xk 0) (L.getD yk 0) = va := by rw [← hxt, ← hyt]; exact HXYk.out HHB.out
            have HOC := Lib.hid (HOk.out HHB.out (L.getD xk 0) (L.getD yk 0) (HVWk.out xk) (HVWk.out yk))
            rw [hval] at HOC
            clear hval hux huy
            rw [hxk] at m4 l4
            clear hxo hxt
            have HXK := Lib.hid hxk
            rw [hyk] at m5 l5
            clear hyo hyt
            have HYK := Lib.hid hyk
            go_wp2_with fail
            refine (HF.out).mono ?_
            rintro e w2 ⟨rfl, hb⟩
            have HB2 := Lib.hid (HBk.out.trans (hb.mono HSZk.out))
            have HB2w := Lib.hid (HBw.out.trans (hb.mono HBw.out.size))
            have HO2 := Lib.hid (own_keep1K HO.out (fun j hj => hb.block j (HO.out.lt j hj).2))
            have hsz2 : w.heap.size + 1 ≤ w2.heap.size := Nat.le_trans HSZk.out hb.size
            have KB2 := Lib.hid (KBk.out.below hb (Nat.lt_of_lt_of_le (Nat.lt_succ_self _) HSZk.out))
            have hbw : ∀ p : Addr, p.block < wr.heap.size → w2.cell? p = wr.cell? p := fun p hp => hb.cell hp
            have M0 := (hbw (ad.add (k * 6)) (by rw [block_of_add]; exact hbl)).trans m0
            have M1 := (hbw (ad.add (k * 6 + 1)) (by rw [block_of_add]; exact hbl)).trans m1
            have M2 := (hbw (ad.add (k * 6 + 2)) (by rw [block_of_add]; exact hbl)).trans m2
            have M3 := (hbw (ad.add (k * 6 + 3)) (by rw [block_of_add]; exact hbl)).trans m3
            have M4 := (hbw (ad.add (k * 6 + 4)) (by rw [block_of_add]; exact hbl)).trans m4
            have M5 := (hbw (ad.add (k * 6 + 5)) (by rw [block_of_add]; exact hbl)).trans m5
            clear hbw hb HF b0 b1 b2 m0 m1 m2 m3 m4 m5 l1 l2 l3 l4 l5
            have N1 := add_cell M1
            have N2 := add_cell M2
            have N3 := add_cell M3
            have N4 := add_cell M4
            have N5 := add_cell M5
            have hrd2 := HO2.out
            rw [HLL.out] at hrd2
            obtain ⟨av, ha, _, hcx⟩ := (Reads.of_own hrd2).word_k (show xk < k by omega)
            subst ha
            obtain ⟨av2, ha2, _, hcy⟩ := (Reads.of_own hrd2).word_k (show yk < k by omega)
            injection ha2 with ha2
            subst ha2
            clear hrd2
            generalize L.getD xk 0 = X at *
            generalize L.getD yk 0 = Y at *
            go_wp2_with fail
            refine (HUX.out _).mono ?_
            rintro e w3 ⟨rfl, rfl⟩
            go_wp2_with fail
            refine (HUY.out _).mono ?_
            rintro e w3 ⟨rfl, rfl⟩
            clear HUX HUY
            have c0 : w2.drew.cell? _ = _ := KB2.out.c0
            have c1_ : w2.drew.cell? _ = _ := KB2.out.c1
            have c2_ : w2.drew.cell? _ = _ := KB2.out.c2
            have P0 : w2.drew.cell? _ = _ := M0
            have P1 : w2.drew.cell? _ = _ := M1
            have P2 : w2.drew.cell? _ = _ := M2
            have P3 : w2.drew.cell? _ = _ := M3
            have P4 : w2.drew.cell? _ = _ := M4
            have P5 : w2.drew.cell? _ = _ := M5
            have Q1 : w2.drew.cell? _ = _ := N1
            have Q2 : w2.drew.cell? _ = _ := N2
            have Q3 : w2.drew.cell? _ = _ := N3
            have Q4 : w2.drew.cell? _ = _ := N4
            have Q5 : w2.drew.cell? _ = _ := N5
            have HOd : Hid (w2.drew.ownsRow (w.heap.size + 1) 37 1 (.slice (some av) k cv) L.length (us L)) := Lib.hid (own_keep1K HO2.out (fun j hj => rfl))
            have HOC2 := Lib.hid (HOC.out w2.drew HB2w.out.drew)
            rw [HXK.out] at HOC2
            rw [HYK.out] at HOC2
            clear hcx
            go_wp2
            go_region_law (first | (go_simp; go_at_call 75; refine (HOC2.out).mono ?_; rintro e w9 ⟨rfl, hb9⟩; have HO9 := Lib.hid (own_keep1K HOd.out (fun j hj => hb9.block j (HOd.out.lt j hj).2)); have hsz9 := hb9.size; have HSZ9 : Hid (∀ o, w.heap.size + 1 ≤ (w9.alloc o).heap.size) := Lib.hid (fun o => by have h9 : w.heap.size + 1 ≤ w9.heap.size := Nat.le_trans hsz2 hsz9; have h8 : (w9.alloc o).heap.size = w9.heap.size + 1 := (by simp); omega)) | (refine step_appC (l := L) k va _ (by rfl) _ _ (by rfl) (w.heap.size + 1) _ _ (by rfl) (HLL.out ▸ (HO9.out.alloc _)) (by rfl) (by go_simp) (by omega) (HSZ9.out _) ?_; intro g5 c5 w5 ho5 hgr hr5 hl5))
            all_goals
              have HO5 := Lib.hid (HNX.out _ w5 (by rw [HLL.out]; exact ho5))
              have HB9 := Lib.hid (HB2.out.drew.trans (hb9.mono (show w.heap.size + 1 ≤ w2.drew.heap.size from hsz2)))
              have HB5 := Lib.hid ((HB9.out.alloc (Nat.le_trans hsz2 hb9.size) _).grown hgr (by have h9 := hb9.size; simp at h9 ⊢; omega) (fun j hj => (HOd.out.lt j hj).1))
              clear ho5 hgr hb9 hr5 hl5 hsz9 c0 c1_ c2_ P0 P1 P2 P3 P4 P5 Q1 Q2 Q3 Q4 Q5 M0 M1 M2 M3 M4 M5 N1 N2 N3 N4 N5
              go_wp2
              go_roundw
              case rel => exact ⟨k + 1, by omega, by go_num, HO5, HB5⟩
              case measure => simp [intOf]; omega
    · obtain rfl : n = k := by omega
      obtain ⟨A3, c3, rfl⟩ := own_slK HO.out
      have HRD := Lib.hid (Reads.of_own HO.out)
      rw [HVL.out] at HRD
      have e9 := HVL.out n
      rw [e9]
      clear hlt e9
      go_wp2
      exact HG.out _ _ A3 c3 n HLEN.out rfl HRD.out HBw.out
end Go.Proofs.YtjpmhbnikoggaaaGreatDoor
