/- Contracts of layer 2: the converse by the program. -/
import Derived.Test.YtogjbghieoifjaaDoorRh
namespace Go.Proofs.YtogjbghieoifjaaDoor
open Go.RowKit Go.Shelf Go.Proofs.Ws
attribute [local go_sem] Oper.semAt_some
def mark (D : Nat) : Deferred := { target := .collected D, args := #[] }
def MarksOK (B : Nat) (Ds : List Nat) (w : World) : Prop := Ds.Nodup ∧ ∀ D ∈ Ds, B ≤ D ∧ w.heap[D]? = some (.deferred (some []))
theorem putObj_ne (w : World) (D k : Nat) (o : Obj) (h : k ≠ D) : (w.putObj D o).heap[k]? = w.heap[k]? := by
  simp [World.putObj, Ne.symm h]
theorem leaves_marks {F : Fence} {n : Nat} {P : Program} {fn : Func} {tmps : Array Value} {R : Ending → World → Prop} (B : Nat) : ∀ (Ds : List Nat) (w : World), MarksOK B Ds w →
    (∀ w', Below B w w' → (∀ (g : Nat) (o : Obj), w.heap[g]? = some o → o.isCells = true → w'.heap[g]? = some o) → LeavesIn F n P fn tmps R [] .returning w') → LeavesInM F n P fn tmps R (Ds.map mark) .returning w
  | [], w, _, h => h w (Below.refl _ _) (fun _ _ hg _ => hg)
  | D :: Ds, w, hM, h => by
    have hD := (hM.2 D (by simp))
    have hnd := List.nodup_cons.1 hM.1
    refine ⟨by simp, .inl ⟨D, _, rfl, run_takeDeferred hD.2, ?_⟩⟩
    have hb : Below B w (w.putObj D (.deferred none)) := ⟨rfl, rfl, rfl, by simp [World.putObj], fun k hk => putObj_ne _ _ _ _ (by have := hD.1; omega)⟩
    refine leaves_marks B Ds _ ⟨hnd.2, fun D' hD' => ⟨(hM.2 D' (by simp [hD'])).1, ?_⟩⟩ ?_
    · rw [putObj_ne _ _ _ _ (fun e => hnd.1 (by rw [← e]; exact hD'))]; exact (hM.2 D' (by simp [hD'])).2
    · intro w' hb' hk'
      refine h w' (hb.trans hb') (fun g o hg ho => hk' g o ?_ ho)
      rw [putObj_ne _ _ _ _ (fun e => by subst e; rw [hD.2] at hg; cases hg; cases ho)]; exact hg
theorem HoldsU.kept {W W' : World} {row : Option Nat} {g : Nat} {l : List Nat} (h : HoldsU W g l) (hg : W.grownBy W' row) (hr : ∀ r, row = some r → ∃ o : Obj, W.heap[r]? = some o ∧ o.isCells = false) : HoldsU W' g l :=
  (hg.block g h.lt (fun e => by
    obtain ⟨o, ho, hc⟩ := hr _ e.symm
    unfold HoldsU at h
    rw [h] at ho
    cases ho
    cases hc)).trans h
theorem col_or (R : List Nat) (v k x : Nat) (hx : R.getD k 0 = x) (hb : x.testBit v = true) (b : Bool) : (if b then colU R v (k + 1) else colU R v k) ||| p2 k = colU R v (k + 1) := by
  have e : colU R v (k + 1) = colU R v k ||| p2 k := by rw [colU_succ, hx, if_pos hb]
  cases b
  · simp [e]
  · rw [if_pos rfl, e, Nat.or_assoc, Nat.or_self]
set_option maxRecDepth 100000 in
set_option maxHeartbeats 4000000 in
theorem converse_any (R : List Nat) (A : Option Addr) (m c : Nat) (w : World) (hR : Reads w w.heap.size 1 A m (us R)) (hw : Words R) (hm : m ≤ maxLen) (hT : Tab w) :
    Calls Tryd.prog 24 #[.slice A m c] w fun e w' => (relErr R.length R = 0 ∧ GivesR (convV R) w e w') ∨ (relErr R.length R ≠ 0 ∧ GivesE (relErr R.length R) w e w') := by
  have e1 := hR.word_len
  have H := Lib.hid (check_any m R A m c _ w hR hw hm)
  have HR := Lib.hid hR
  rw [e1]
  by_cases h0 : relErr m R = 0
  · have hm64 := relErr_zero h0
    rw [h0] at H
    have HV : Hid (convV R = (List.range m).map (fun v => colU R v m)) := Lib.hid (by unfold convV; rw [e1])
    have HW := Lib.hid hw
    have H0 := Lib.hid h0
    have HT := Lib.hid hT
    have HROWS := Lib.hid (relErr_rows h0)
    have hmk := fun W => makeU W m (by omega)
    clear h0 hR hw e1 hT
    refine (callsIn_wide (n := 6)).1 ?_
    refine callsIn_of_wp_marks Tryd.func24 rfl trivial ?_ rfl
    simp only [Tryd.ntmps24, List.size_toArray, List.length_cons, List.length_nil, Nat.reduceAdd, Nat.reduceSub, Array.replicate_succ, Array.replicate_zero, List.push_toArray, List.append_toArray, List.nil_append, List.cons_append]
    gi_wp2_with (first | (refine ⟨trivial, ?_⟩; gi_at_call 13; refine (callsIn_wide.2 (H.out)).mono ?_; rintro e w' ⟨rfl, rfl⟩))
    have b0 := cell_new_l (w.alloc (.cells (us (List.replicate m 0)).toArray 34)) (.slice (some ⟨w.heap.size, 0, none⟩) m m) 22
    rw [World.size_alloc] at b0
    have HH := Lib.hid ((HoldsU.made w (List.replicate m 0)).alloc (.cells #[.slice (some ⟨w.heap.size, 0, none⟩) m m] 22))
    have HB := Lib.hid (((Below.refl w.heap.size w).alloc (Nat.le_refl _) (.cells (us (List.replicate m 0)).toArray 34)).alloc (by simp) (.cells #[.slice (some ⟨w.heap.size, 0, none⟩) m m] 22))
    have hb0 := b0.1
    generalize (w.alloc (.cells (us (List.replicate m 0)).toArray 34)).alloc (.cells #[.slice (some ⟨w.heap.size, 0, none⟩) m m] 22) = wx at *
    clear b0 hmk
    refine wpIn_loop (fun a wr => ∃ (k : Nat) (Ds : List Nat) (u6 u7 u22 u23 u24 u25 u26 u27 u37 : Value), k ≤ m ∧ a = { tmps := #[.slice A m c, undef, .slice none 0 0, .int .i64 0, .int .i64 0, .pointer (some ⟨w.heap.size + 1, 0, none⟩), u6, u7, undef, .slice A m c, .int .i64 m, .slice A m c, .int .i64 0, .int .i64 0, .bool false, undef, .slice A m c, .int .i64 m, .slice (some ⟨w.heap.size, 0, none⟩) m m, .slice A m c, .int .i64 m, .int .i64 (k : Int), u22, u23, u24, u25, u26, u27, undef, undef, undef, undef, undef, undef, undef, undef, undef, u37, undef], defers := Ds.map mark } ∧ Hid (MarksOK w.heap.size Ds wr) ∧ Hid (HoldsU wr w.heap.size (mixL (fun _ => false) (fun v => colU R v (k + 1)) (fun v => colU R v k) m)) ∧
          Hid (wr.cell? ⟨w.heap.size + 1, 0, none⟩ = some (.slice (some ⟨w.heap.size, 0, none⟩) m m)) ∧ Hid (Below w.heap.size w wr))
      (fun a _ => m - (intOf (a.tmps.getD 21 undef)).toNat) ?start ?round
    case start => exact ⟨0, [], undef, undef, undef, undef, undef, undef, undef, undef, undef, by omega, rfl, Lib.hid ⟨List.nodup_nil, fun _ h => by cases h⟩, by rw [mixL_start (fun _ => false) (fun v => colU R v (0 + 1)) (fun v => colU R v 0) m (fun _ => rfl) (fun _ _ => rfl)]; exact HH, Lib.hid hb0, HB⟩
    case round =>
      clear HH HB hb0
      rintro a wr ⟨k, Ds, u6, u7, u22, u23, u24, u25, u26, u27, u37, hk, rfl, HM, HH, HC, HB⟩
      by_cases hlt : k < m
      · obtain ⟨x, hx⟩ : ∃ x, R.getD k 0 = x := ⟨_, rfl⟩
        have hxw : x < 18446744073709551616 := by rw [← hx]; exact words_getD HW.out k
        obtain ⟨ad, rfl, hb, hc⟩ := (HR.out.below HB.out).word_k hlt
        rw [hx] at hc
        gi_wp2_with (first | (refine ⟨trivial, ?_⟩; gi_at_call 61; refine (callsIn_wide.2 (points_any x _)).mono ?_; rintro e w' ⟨rfl, rfl⟩))
        have HX := Lib.hid hx
        have HJ : Hid (∀ j ∈ mem x, j < m ∧ x.testBit j = true) := Lib.hid (fun j hj => by
          have h1 := (mem_iff _ _).1 hj
          refine ⟨?_, h1.2⟩
          apply Classical.byContradiction
          intro hn
          have hxm : x < 2 ^ m := by
            have hl := (HR.out).word_len
            rw [← hx, List.getD_eq_getElem?_getD, List.getElem?_eq_getElem (by omega)]
            exact HROWS.out _ (List.getElem_mem _)
          have : x < 2 ^ j := Nat.lt_of_lt_of_le hxm (Nat.pow_le_pow_right (by decide) (by omega))
          rw [Nat.testBit_lt_two_pow this] at h1
          exact absurd h1.2 (by simp))
        have hsz := HB.out.size
        have hgl := HH.out.lt
        have hwg : w.heap.size + 1 < wr.heap.size := by
          rcases Nat.lt_or_ge (w.heap.size + 1) wr.heap.size with h' | h'
          · exact h'
          · have := HC.out; simp [World.cell?, Array.getElem?_eq_none h'] at this
        have b1 := cell_new_l wr (.int .i64 (k : Int)) 3
        have b2 := cell_new_l (wr.alloc (.cells #[.int .i64 (k : Int)] 3)) (.int .u64 (x : Int)) 34
        simp only [World.size_alloc] at b2
        have hBW : Below w.heap.size w ((wr.alloc (.cells #[.int .i64 (k : Int)] 3)).alloc (.cells #[.int .u64 (x : Int)] 34)) := (HB.out.alloc hsz _).alloc (by simp; omega) _
        have hsW : ((wr.alloc (.cells #[.int .i64 (k : Int)] 3)).alloc (.cells #[.int .u64 (x : Int)] 34)).heap.size = wr.heap.size + 2 := by simp
        have c1 := cell_alloc_l (.cells #[.int .u64 (x : Int)] 34) (cell_alloc_l (.cells #[.int .i64 (k : Int)] 3) HC.out)
        have c2 := cell_alloc_l (.cells #[.int .u64 (x : Int)] 34) b1.1
        have c3 := b2.1
        have hh0 := (HH.out.alloc (.cells #[.int .i64 (k : Int)] 3)).alloc (.cells #[.int .u64 (x : Int)] 34)
        have hm0 : ∀ D ∈ Ds, D < wr.heap.size ∧ ((wr.alloc (.cells #[.int .i64 (k : Int)] 3)).alloc (.cells #[.int .u64 (x : Int)] 34)).heap[D]? = some (.deferred (some [])) := fun D hD => by
          have h1 := (HM.out.2 D hD).2
          have hl : D < wr.heap.size := (Array.getElem?_eq_some_iff.1 h1).1
          exact ⟨hl, (Below.heap_alloc _ _ D (by simp; omega)).trans ((Below.heap_alloc _ _ D hl).trans h1)⟩
        generalize (wr.alloc (.cells #[.int .i64 (k : Int)] 3)).alloc (.cells #[.int .u64 (x : Int)] 34) = W0 at *
        clear b1 b2 HC HH
        refine wpIn_rangeFunc_ownF rfl (by omega) (gf := 77) (lb := #[.pointer (some ⟨wr.heap.size + 1, 0, none⟩)]) rfl trivial (enters_of Tryd.func77 (by kernel_rfl) rfl)
          (points_stops 5 (by omega) (wr.heap.size + 1) w.heap.size x W0 hxw (by omega) HT.out.2 c3 (HT.out.below hBW)) belowK_t (belowK_b (by omega)) (Below.refl _ _) (fun _ => rfl)
          (fun pre W => (W.cell? ⟨w.heap.size + 1, 0, none⟩ = some (.slice (some ⟨w.heap.size, 0, none⟩) m m) ∧ W.cell? ⟨wr.heap.size, 0, none⟩ = some (.int .i64 (k : Int)) ∧
            HoldsU W w.heap.size (mixL (fun j => decide (j ∈ vals pre)) (fun v => colU R v (k + 1)) (fun v => colU R v k) m) ∧ (∀ D ∈ Ds, W.heap[D]? = some (.deferred (some [])))) ∧ Below w.heap.size w W)
          (fun _ _ _ => False)
          (OwnFrom.and (fun s A B row hs hg hr => ⟨cell_kept hs.1 hg (fun r e => (hr r e).2), cell_kept hs.2.1 hg (fun r e => (hr r e).2), hs.2.2.1.kept hg (fun r e => (hr r e).2),
            fun D hD => (hg.block D (Array.getElem?_eq_some_iff.1 (hs.2.2.2 D hD)).1 (fun e => by have h1 := (hr _ e.symm).1; have h2 := (hm0 D hD).1; omega)).trans (hs.2.2.2 D hD)⟩) (ownFrom_below (Nat.le_refl _) (by omega)))
          (fun _ _ _ _ _ hs _ _ => hs)
          ⟨⟨c1, c2, by rw [mixL_congr (p' := fun _ => false) (f' := fun v => colU R v (k + 1)) (g' := fun v => colU R v k) (fun v _ => by simp [vals_nil])]; exact hh0, fun D hD => (hm0 D hD).2⟩, hBW⟩
          (fun j => { tmps := #[.slice (some ad) m c, undef, .slice none 0 0, .int .i64 0, .int .i64 0, .pointer (some ⟨w.heap.size + 1, 0, none⟩), .pointer (some ⟨wr.heap.size, 0, none⟩), .int .u64 (x : Int), .int .i64 (j.1 : Int), .slice (some ad) m c, .int .i64 m, .slice (some ad) m c, .int .i64 0, .int .i64 0, .bool false, undef, .slice (some ad) m c, .int .i64 m, .slice (some ⟨w.heap.size, 0, none⟩) m m, .slice (some ad) m c, .int .i64 m, .int .i64 (k : Int), .bool true, .int .i64 (k : Int), .pointer (some (ad.add k)), .int .u64 (x : Int), .int .u64 (x : Int), .func (.func 77) #[] #[.pointer (some ⟨wr.heap.size + 1, 0, none⟩)], .int .i64 (j.1 : Int), undef, undef, undef, undef, undef, undef, undef, undef, u37, undef], defers := [] }) ?assign ?body ?done ?stop
        case assign =>
          intro l j W K hK
          gi_wp2
          exact hK
        case body =>
          rintro l pre j W ⟨⟨hc1, hc2, hh, hmk⟩, hB⟩ _
          have hjm := (HJ.out j.1 j.2).1
          have hmx : Tryd.prog.follows .mixedOrders = true := by kernel_rfl
          obtain ⟨v0, hv0⟩ : ∃ v0, v0 = (mixL (fun i => decide (i ∈ vals pre)) (fun v => colU R v (k + 1)) (fun v => colU R v k) m).getD j.1 0 := ⟨_, rfl⟩
          have hcz := hh.cell j.1 (by rw [mixL_length]; exact hjm)
          rw [← hv0] at hcz
          have hfz := hh.free j.1
          have hv1 : v0 ||| p2 k = colU R j.1 (k + 1) := by rw [hv0, mixL_getD _ _ _ _ _ hjm]; exact col_or R j.1 k x HX.out (HJ.out j.1 j.2).2 _
          have hvl : v0 < 18446744073709551616 := by rw [hv0, mixL_getD _ _ _ _ _ hjm]; split <;> exact colU_lt R _ _ (by omega)
          have hor : bits .or .u64 (v0 : Int) (p2 k : Int) = (colU R j.1 (k + 1) : Int) := by rw [(or_pow v0 k hvl (by omega)).1, hv1]
          have HP := Lib.hid (hh.put j.1 (colU R j.1 (k + 1)))
          rw [mixL_set (fun i => decide (i ∈ vals pre)) (fun i => decide (i ∈ vals (pre ++ [j]))) _ _ m j.1 _ (by simp [vals_snoc]) (fun i hi => by simp [vals_snoc, hi])] at HP
          have HB := Lib.hid hB
          have HMK := Lib.hid hmk
          have HDG : Hid (∀ D ∈ Ds, D ≠ w.heap.size) := Lib.hid (fun D hD e => by
            have h1 := hmk D hD
            unfold HoldsU at hh
            rw [e, hh] at h1
            cases h1)
          generalize colU R j.1 (k + 1) = v1 at *
          clear hv0 hv1 hvl hh hB hmk
          gi_wp2
          gi_region_with_o (refine ⟨trivial, ?_⟩; gi_at_call 62; refine (CallsIn.inRound l (callsIn_wide.2 (relOnly_any k _ (by omega)))).mono ?_; rintro e w' ⟨rfl, rfl⟩)
          all_goals gi_wp2
          all_goals (try go_bits)
          all_goals exact ⟨(KeepsOthers.setCell _ _ _).trans (KeepsOthers.drew _), ((Below.refl w.heap.size W).setCell (p := ⟨w.heap.size, j.1, none⟩) (Nat.le_refl _) _).drew, ⟨⟨(World.cell?_setCell_other W ⟨w.heap.size, j.1, none⟩ ⟨w.heap.size + 1, 0, none⟩ _ (by simp)).trans hc1, (World.cell?_setCell_other W ⟨w.heap.size, j.1, none⟩ ⟨wr.heap.size, 0, none⟩ _ (by intro e; injection e with e1 e2; omega)).trans hc2, HP.out, fun D hD => (Below.heap_setCell W ⟨w.heap.size, j.1, none⟩ _ D (HDG.out D hD)).trans (HMK.out D hD)⟩, (HB.out.setCell (p := ⟨w.heap.size, j.1, none⟩) (Nat.le_refl _) _).drew⟩⟩
        case done =>
          rintro D ys W hD hys ⟨⟨hc1, hc2, hh, hmk⟩, hB⟩ hK
          have HMM : Hid (MarksOK w.heap.size (D :: Ds) W) := Lib.hid ⟨List.nodup_cons.2 ⟨fun h => by have := (hm0 D h).1; omega, HM.out.1⟩, fun D' hD' => by
            rcases List.mem_cons.1 hD' with rfl | h
            · exact ⟨by omega, hK⟩
            · exact ⟨(HM.out.2 D' h).1, hmk D' h⟩⟩
          have HH : Hid (HoldsU W w.heap.size (mixL (fun _ => false) (fun v => colU R v (k + 1 + 1)) (fun v => colU R v (k + 1)) m)) := Lib.hid (by
            rw [mixL_congr (p' := fun j => decide (j ∈ vals ys)) (f' := fun v => colU R v (k + 1)) (g' := fun v => colU R v k) (fun v hv => by
              rw [if_neg (by simp), hys]
              by_cases hb : x.testBit v = true
              · rw [if_pos (by simp only [decide_eq_true_eq]; exact (mem_iff _ _).2 ⟨by omega, hb⟩)]
              · rw [if_neg (by simp only [decide_eq_true_eq]; exact fun h => hb ((mem_iff _ _).1 h).2), colU_succ, HX.out, if_neg hb])]
            exact hh)
          have HC := Lib.hid hc1
          have HB' := Lib.hid hB
          clear hc1 hc2 hh hmk hB hK
          gi_wp2
          refine ⟨⟨k + 1, D :: Ds, .pointer (some ⟨wr.heap.size, 0, none⟩), .int .u64 (x : Int), .bool true, .int .i64 (k : Int), .pointer (some (ad.add k)), .int .u64 (x : Int), .int .u64 (x : Int), .func (.func 77) #[] #[.pointer (some ⟨wr.heap.size + 1, 0, none⟩)], .int .i64 ((k : Int) + 1), by omega, ?_, HMM, HH, HC, HB'⟩, ?_⟩
          · rfl
          · simp [intOf]; omega
        case stop =>
          rintro D c pre W _ _ h _
          exact h.elim
      · have hkm : k = m := by omega
        subst hkm
        have hcc := HC.out
        gi_wp2
        refine leaves_marks w.heap.size Ds _ HM.out (fun w' hb' hk' => ?_)
        have HE : Hid (mixL (fun _ => false) (fun v => colU R v (k + 1)) (fun v => colU R v k) k = convV R) := Lib.hid (by rw [HV.out]; unfold mixL; simp)
        have hh : HoldsU w' w.heap.size (convV R) := by rw [← HE.out]; exact hk' _ _ HH.out rfl
        refine ⟨_, results_tmp2 rfl _ _ _, Or.inl ⟨H0.out, some ⟨w.heap.size, 0, none⟩, k, ?_, ?_, HB.out.trans hb'⟩⟩
        · rw [HV.out, List.length_map, List.length_range]; rfl
        · exact hh.reads
  · have HN := Lib.hid h0
    have hne : (relErr m R != 0) = true := by simp [h0]
    clear hR hw e1 hT
    generalize relErr m R = x at *
    clear h0
    go_enter Tryd.func24, Tryd.ntmps24
    go_wp2_with fail
    refine (H.out).mono ?_
    rintro e w1 ⟨rfl, rfl⟩
    go_wp2
    go_ret2
    exact Or.inr ⟨HN.out, rfl, Below.refl _ _⟩
end Go.Proofs.YtogjbghieoifjaaDoor
