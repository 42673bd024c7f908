/- Layer 9: the program's truth tables. -/
import Derived.Test.YtopkmcoblndokaaDoorNVa
import Derived.Test.YtopkmcoblndokaaDoorNVl
import Derived.Test.YtopkmcoblndokaaDoorNVm
namespace Go.Proofs.YtopkmcoblndokaaDoor
open Go.RowKit Go.Proofs.Ws Go.Maps
set_option maxRecDepth 100000
/-- the truth tables of the facts, as the row lays them -/
structure EnvB (W : World) (B : Nat) : Prop where
  cols : ∀ k, k < 6 → W.cell? ⟨0, k, none⟩ = some (.int .u64 ((colN k : Nat) : Int))
  lt : 0 < B
theorem EnvB.below {W W' : World} {B : Nat} (h : EnvB W B) (hb : Below B W W') : EnvB W' B := ⟨fun k hk => (hb.cell (p := ⟨0, k, none⟩) h.lt).trans (h.cols k hk), h.lt⟩
theorem EnvB.up {W : World} {B B' : Nat} (h : EnvB W B) (hb : B ≤ B') : EnvB W B' := ⟨h.cols, Nat.lt_of_lt_of_le h.lt hb⟩
theorem isNum_any (n : Int) (w : World) : Calls Tryd.prog 19 #[.int .i64 n] w fun e w' => e = .returned (.bool (decide (0 ≤ n ∧ n ≤ 6))) ∧ w = w' := by
  by_cases h0 : 0 ≤ n
  · by_cases h6 : n ≤ 6
    · rw [decide_eq_true (show 0 ≤ n ∧ n ≤ 6 from ⟨h0, h6⟩)]
      have d0 : decide (0 ≤ n) = true := decide_eq_true h0
      have d6 : decide (n ≤ 6) = true := decide_eq_true h6
      clear h0 h6
      go_enter Tryd.func19, Tryd.ntmps19
      go_wp2
      go_ret
      exact ⟨rfl, rfl⟩
    · rw [decide_eq_false (show ¬ (0 ≤ n ∧ n ≤ 6) from fun k => h6 k.2)]
      have d0 : decide (0 ≤ n) = true := decide_eq_true h0
      have d6 : decide (n ≤ 6) = false := decide_eq_false h6
      clear h0 h6
      go_enter Tryd.func19, Tryd.ntmps19
      go_wp2
      go_ret
      exact ⟨rfl, rfl⟩
  · rw [decide_eq_false (show ¬ (0 ≤ n ∧ n ≤ 6) from fun k => h0 k.1)]
    have d0 : decide (0 ≤ n) = false := decide_eq_false h0
    clear h0
    go_enter Tryd.func19, Tryd.ntmps19
    go_wp2
    go_ret
    exact ⟨rfl, rfl⟩
theorem full_any (n : Nat) (hn : n ≤ 6) (w : World) : Calls Tryd.prog 23 #[.int .i64 (n : Int)] w fun e w' => e = .returned (.int .u64 ((fullN n : Nat) : Int)) ∧ w = w' := by
  have h : n = 0 ∨ n = 1 ∨ n = 2 ∨ n = 3 ∨ n = 4 ∨ n = 5 ∨ n = 6 := by omega
  rcases h with rfl | rfl | rfl | rfl | rfl | rfl | rfl
  all_goals
    go_enter Tryd.func23, Tryd.ntmps23
    go_wp2
    go_ret
    exact ⟨rfl, rfl⟩
theorem fullN_lt {n : Nat} (hn : n ≤ 6) : fullN n < 18446744073709551616 := by
  have h : n = 0 ∨ n = 1 ∨ n = 2 ∨ n = 3 ∨ n = 4 ∨ n = 5 ∨ n = 6 := by omega
  rcases h with rfl | rfl | rfl | rfl | rfl | rfl | rfl <;> decide
/-- the words of the facts so far, and zeros -/
def fM (q : List Nd) (n j : Nat) : List Nat := (factW q).take j ++ List.replicate (n - j) 0
theorem fM_len {q : List Nd} {n j : Nat} (hq : q.length = n) (h : j ≤ n) : (fM q n j).length = n := by
  unfold fM factW
  rw [List.length_append, List.length_take, List.length_map, List.length_replicate]
  omega
theorem fM_set {q : List Nd} {n j : Nat} (hq : q.length = n) (h : j < n) : (fM q n j).set j (if (q.getD j nd0).op = 3 then colN (q.getD j nd0).i.toNat else 0) = fM q n (j + 1) := by
  have hl : (factW q).length = n := by unfold factW; rw [List.length_map]; exact hq
  have e0 : ((factW q).take j).length = j := by rw [List.length_take]; omega
  unfold fM
  have e : n - j = (n - (j + 1)) + 1 := by omega
  rw [e, List.replicate_succ, List.set_append_right _ _ (by omega), e0, Nat.sub_self, List.take_succ_eq_append_getElem (by omega)]
  have e2 : (factW q)[j] = if (q.getD j nd0).op = 3 then colN (q.getD j nd0).i.toNat else 0 := by
    rw [← factW_at q (by omega), List.getD_eq_getElem?_getD, List.getElem?_eq_getElem (by omega)]; rfl
  rw [e2]
  simp
theorem fM_keep {q : List Nd} {n j : Nat} (hq : q.length = n) (h : j < n) (hop : (q.getD j nd0).op ≠ 3) : fM q n j = fM q n (j + 1) := by
  have h1 := fM_set hq h
  rw [if_neg hop] at h1
  rw [← h1]
  have hl : (factW q).length = n := by unfold factW; rw [List.length_map]; exact hq
  have e0 : ((factW q).take j).length = j := by rw [List.length_take]; omega
  have e : (fM q n j)[j]? = some 0 := by
    unfold fM
    rw [List.getElem?_append_right (by omega), e0, Nat.sub_self, List.getElem?_replicate, if_pos (by omega)]
  apply List.ext_getElem?
  intro k
  rw [List.getElem?_set]
  split
  · rename_i ek
    subst ek
    rw [e, if_pos (by rw [fM_len hq (by omega)]; exact h)]
  · rfl
theorem fM_full {q : List Nd} {n : Nat} (hq : q.length = n) : fM q n n = factW q := by
  unfold fM
  rw [Nat.sub_self, List.take_of_length_le (by unfold factW; rw [List.length_map]; omega)]
  simp
theorem factW_words (q : List Nd) : Words (factW q) := by
  intro x hx
  obtain ⟨n, _, rfl⟩ := List.mem_map.1 hx
  split
  · exact col_lt _
  · decide
/-- what Table returns -/
def tblE (f : List Nd) (n : Int) : Int := if fErr f ≠ 0 then fErr f else if maskL fragD (compF f) ≠ 0 then 10 else if (0 ≤ n ∧ n ≤ 6) ∧ fitsF f 0 n = true then 0 else 2
def tblV (f : List Nd) (n : Int) : Nat := if tblE f n = 0 then (wL (compF f) (factW (compF f)) (compF f).length).getD ((compF f).length - 1) 0 &&& fullN n.toNat else 0
theorem maskL_hit (g : Nd → Nat) (l : List Nd) (n : Nd) (hn : n ∈ l) (i : Nat) (h : (g n).testBit i = true) : (maskL g l).testBit i = true := by
  have key : ∀ (l : List Nd) (a : Nat), (a.testBit i = true ∨ ∃ n ∈ l, (g n).testBit i = true) → (l.foldl (fun m n => m ||| g n) a).testBit i = true := by
    intro l
    induction l with
    | nil =>
      intro a h
      rcases h with h | ⟨x, hx, _⟩
      · exact h
      · exact absurd hx (by simp)
    | cons x l ih =>
      intro a h
      refine ih _ ?_
      rcases h with h | ⟨y, hy, h⟩
      · exact .inl (by rw [Nat.testBit_or, h]; rfl)
      · rcases List.mem_cons.1 hy with rfl | hy
        · exact .inl (by rw [Nat.testBit_or, h]; exact Bool.or_true _)
        · exact .inr ⟨y, hy, h⟩
  exact key l 0 (.inr ⟨n, hn, h⟩)
theorem fits_facts {f : List Nd} {n : Int} (_hn : 0 ≤ n ∧ n ≤ 6) (h : fitsF f 0 n = true) : ∀ x ∈ compF f, x.op = 3 → 0 ≤ x.i ∧ x.i < n := by
  unfold fitsF at h
  simp only [Bool.and_eq_true, decide_eq_true_eq] at h
  intro x hx h3
  obtain ⟨i0, i8⟩ := (fld_i (compF_fld f x hx)).1 h3
  refine ⟨i0, ?_⟩
  have hM := factM_256 f
  have hb := h.2.2
  rw [belowM_bits _ 8 n (by decide) hM, bitsOk_iff] at hb
  have hbit := maskL_hit factD _ x hx x.i.toNat (by unfold factD; rw [if_pos h3]; exact Nat.testBit_two_pow_self)
  rw [Nat.testBit_eq_decide_div_mod_eq] at hbit
  have := hb x.i.toNat (by omega) (of_decide_eq_true hbit)
  omega

set_option maxHeartbeats 16000000 in
theorem pTable_any (f : List Nd) (n : Int) (A : Option Addr) (m c : Nat) (w : World) (hE : EnvB w w.heap.size) (hR : Reads w w.heap.size 6 A m (nds f)) (hm : m ≤ maxLen) :
    Calls Tryd.prog 6 #[.slice A m c, .int .i64 n] w fun e w' => e = .returned (.tuple #[.int .u64 ((tblV f n : Nat) : Int), .int .i64 (tblE f n)]) ∧ Below w.heap.size w w' := by
  have HE := Lib.hid hE
  have HV := Lib.hid (pCheck_any f A m c w hR hm)
  have HFR := Lib.hid (fun (W : World) (h : Below w.heap.size w W) => pFrags_any f A m c W ((hR.below h).more h.size) hm)
  have HFI := Lib.hid (fun (W : World) (h : Below w.heap.size w W) => pFits_any f 0 n A m c W ((hR.below h).more h.size) hm)
  have HC := Lib.hid (fun (W : World) (h : Below w.heap.size w W) => pCompact_any f A m c W ((hR.below h).more h.size) hm)
  have HN := Lib.hid (fun W => isNum_any n W)
  have HVL : Hid (tblV f n = if tblE f n = 0 then (wL (compF f) (factW (compF f)) (compF f).length).getD ((compF f).length - 1) 0 &&& fullN n.toNat else 0) := Lib.hid rfl
  have HTE : Hid (tblE f n = if fErr f ≠ 0 then fErr f else if maskL fragD (compF f) ≠ 0 then 10 else if (0 ≤ n ∧ n ≤ 6) ∧ fitsF f 0 n = true then 0 else 2) := Lib.hid rfl
  clear hE hR hm
  by_cases hz : fErr f = 0
  · by_cases hfr : maskL fragD (compF f) = 0
    · by_cases hn : 0 ≤ n ∧ n ≤ 6
      · by_cases hfit : fitsF f 0 n = true
        · have ht0 : tblE f n = 0 := by rw [HTE.out, if_neg (fun k => k hz), if_neg (fun k => k hfr), if_pos ⟨hn, hfit⟩]
          rw [ht0, if_pos rfl] at HVL
          rw [ht0]
          have HFS := Lib.hid (fits_facts hn hfit)
          rw [hfit] at HFI
          rw [decide_eq_true hn] at HN
          rw [hfr] at HFR
          rw [hz] at HV
          have hk := compF_ok hz
          have hq200 := (fErr_ok hk).2.1
          have hqp := List.length_pos_iff.2 (fErr_ok hk).1
          have HOP := Lib.hid (fErr_ops hk)
          obtain ⟨k, rfl⟩ : ∃ k : Nat, n = (k : Int) := ⟨n.toNat, by omega⟩
          have hk6' : k ≤ 6 := by omega
          rw [Int.toNat_natCast] at HVL
          have HVAL := HVL
          clear HTE hfr hn hfit hz hk ht0 HVL
          generalize compF f = q at *
          generalize tblV f (k : Int) = tv at *
          go_enter Tryd.func6, Tryd.ntmps6
          go_wp2_with fail
          refine (HV.out).mono ?_
          rintro r w1 ⟨rfl, hb⟩
          have HB1 := Lib.hid hb
          clear hb
          go_wp2_with fail
          refine (HFR.out w1 HB1.out).mono ?_
          rintro r w2 ⟨rfl, hb⟩
          have HB2 := Lib.hid (HB1.out.trans (hb.mono HB1.out.size))
          clear hb
          go_wp2_with fail
          refine (HN.out w2).mono ?_
          rintro r wq ⟨rfl, rfl⟩
          go_wp2_with fail
          refine (HFI.out w2 HB2.out).mono ?_
          rintro r w3 ⟨rfl, hb⟩
          have HB3 := Lib.hid (HB2.out.trans (hb.mono HB2.out.size))
          clear hb
          go_wp2_with fail
          refine (HC.out w3 HB3.out).mono ?_
          rintro r w4 ⟨Aq, cq, rfl, hq, hb⟩
          have HQ := Lib.hid hq
          have HB4 := Lib.hid (HB3.out.trans (hb.mono HB3.out.size))
          clear hb hq
          have HL := Lib.hid (HQ.out.nd_len)
          have hmk := makeU w4 q.length (by omega)
          have HU0 := Lib.hid (HoldsU.made w4 (List.replicate q.length 0))
          have HB50 : Hid (Below w4.heap.size w4 (w4.alloc (.cells (us (List.replicate q.length 0)).toArray 27))) := Lib.hid ((Below.refl _ w4).alloc (Nat.le_refl _) _)
          have HW0 : Hid (List.replicate q.length 0 = fM q q.length 0) := Lib.hid rfl
          go_wp2
          generalize w4.alloc (.cells (us (List.replicate q.length 0)).toArray 27) = w5 at *
          rw [HW0.out] at HU0
          go_loopw [9, 10, 35] (fun _ _ i wr => ∃ j : Nat, j ≤ q.length ∧ i = .int .i64 j ∧ Hid (HoldsU wr w4.heap.size (fM q q.length j)) ∧ Hid (Below w4.heap.size w4 wr)) (fun _ _ i _ => q.length - (intOf i).toNat)
          case atStart => exact ⟨0, Nat.zero_le _, rfl, HU0, HB50⟩
          case round =>
            obtain ⟨j, hj, rfl, HU, HBI⟩ := hrel
            have hsz := HBI.out.size
            have hlt := HU.out.lt
            by_cases hlj : j < q.length
            · obtain ⟨aq, rfl, hbq, m0, m1, m2, m3, m4, m5⟩ := (HQ.out.below HBI.out).nd_at hlj
              have l1 := add_cell m1
              have l2 := add_cell m2
              have l3 := add_cell m3
              have l4 := add_cell m4
              have l5 := add_cell m5
              have HSET := Lib.hid (fM_set rfl hlj)
              have HKEEP := Lib.hid (fM_keep rfl hlj)
              have hcj := HU.out.cell j (by rw [fM_len rfl hj]; exact hlj)
              have hfj := HU.out.free j
              have hfi := HFS.out _ (getD_mem hlj)
              generalize (fM q q.length j).getD j 0 = zj at *
              generalize hnext : fM q q.length (j + 1) = mnext at *
              have HNX := Lib.hid hnext
              clear hnext
              generalize fM q q.length j = mj at *
              generalize q.getD j nd0 = y at *
              obtain ⟨op, i, e, gg, x, yy⟩ := y
              dsimp only at m0 m1 m2 m3 m4 m5 l1 l2 l3 l4 l5 HSET HKEEP hfi
              by_cases h3 : op = 3
              · subst h3
                obtain ⟨i0, i1⟩ := hfi rfl
                obtain ⟨ki, rfl⟩ : ∃ k : Nat, i = (k : Int) := ⟨i.toNat, by omega⟩
                have hk6 : ki < 6 := by omega
                have HBW := Lib.hid (HB4.out.trans (HBI.out.mono HB4.out.size))
                have hE := (HE.out.below HBW.out)
                have hcol := hE.cols ki hk6
                have hcl : 0 < wr.heap.size := Nat.lt_of_lt_of_le hE.lt HBW.out.size
                rw [if_pos rfl, Int.toNat_natCast] at HSET
                generalize colN ki = zc at *
                have HBA : Hid (Below w4.heap.size w4 (wr.alloc (.cells #[.int .i64 3, .int .i64 (ki : Int), .int .i64 e, .int .i64 gg, .int .i64 x, .int .i64 yy] 55))) := Lib.hid (HBI.out.alloc hsz _)
                have HUA := Lib.hid (HU.out.alloc (.cells #[.int .i64 3, .int .i64 (ki : Int), .int .i64 e, .int .i64 gg, .int .i64 x, .int .i64 yy] 55))
                clear hE hfi i0 i1
                go_wp2
                go_roundw
                case rel => exact ⟨j + 1, by omega, by go_num, Lib.hid (by rw [HNX.out, ← HSET.out]; exact (HoldsU.put HU.out j _).alloc _), Lib.hid ((HBI.out.setCell (Nat.le_refl _) _).alloc (by simpa using hsz) _)⟩
                case measure => first | (simp [intOf]; done) | (simp [intOf]; omega)
              · have hop : (op == 3) = false := by simpa using h3
                have HK2 := Lib.hid (HKEEP.out h3)
                have HBA : Hid (Below w4.heap.size w4 (wr.alloc (.cells #[.int .i64 op, .int .i64 i, .int .i64 e, .int .i64 gg, .int .i64 x, .int .i64 yy] 55))) := Lib.hid (HBI.out.alloc hsz _)
                have HUA := Lib.hid (HU.out.alloc (.cells #[.int .i64 op, .int .i64 i, .int .i64 e, .int .i64 gg, .int .i64 x, .int .i64 yy] 55))
                clear hfi h3
                go_wp2
                go_roundw
                case rel => exact ⟨j + 1, by omega, by go_num, Lib.hid (by rw [HNX.out, ← HK2.out]; exact HUA.out), HBA⟩
                case measure => first | (simp [intOf]; done) | (simp [intOf]; omega)
            · have : j = q.length := by omega
              subst this
              have HUF : Hid (HoldsU wr w4.heap.size (factW q)) := Lib.hid (by rw [← fM_full rfl]; exact HU.out)
              have HBW := Lib.hid (HB4.out.trans (HBI.out.mono HB4.out.size))
              have hlw : (factW q).length = q.length := by unfold factW; rw [List.length_map]
              have HRG : Hid (Reads wr wr.heap.size 1 (some ⟨w4.heap.size, 0, none⟩) q.length (us (factW q))) := Lib.hid (by rw [← hlw]; exact HUF.out.reads)
              have HEV := Lib.hid (evaluate_any q (factW q) Aq (some ⟨w4.heap.size, 0, none⟩) q.length cq q.length wr ((HQ.out.below HBI.out).more hsz) HRG.out HOP.out (by omega) (by omega) (factW_words q))
              have hz64 := words_getD (wL_words q (factW_words q) q.length) (q.length - 1)
              have HFU := Lib.hid (fun W => full_any k hk6' W)
              have hf64 := fullN_lt hk6'
              have hand := u64_and_nat _ _ hz64 hf64
              generalize (wL q (factW q) q.length).getD (q.length - 1) 0 = zv at *
              generalize fullN k = zf at *
              clear hlw HU HUF
              go_wp2_with fail
              refine (HEV.out).mono ?_
              rintro r w6 ⟨rfl, hb⟩
              have HB6 := Lib.hid (HBW.out.trans (hb.mono HBW.out.size))
              clear hb
              go_wp2_with fail
              refine (HFU.out w6).mono ?_
              rintro r wq ⟨rfl, rfl⟩
              go_wp2
              go_ret2
              rw [HVAL.out]
              exact ⟨by first | rfl | rw [hand], HB6.out⟩
        · have ht2 : tblE f n = 2 := by rw [HTE.out, if_neg (fun k => k hz), if_neg (fun k => k hfr), if_neg (fun k => hfit k.2)]
          have hv0 : tblV f n = 0 := by rw [HVL.out, if_neg (by rw [ht2]; decide)]
          have hfb : fitsF f 0 n = false := by simpa using hfit
          rw [hfb] at HFI
          rw [decide_eq_true hn] at HN
          rw [hfr] at HFR
          rw [hz] at HV
          rw [ht2, hv0]
          clear HTE HVL hfr hn hfit hz ht2 hv0 hfb HC
          go_enter Tryd.func6, Tryd.ntmps6
          go_wp2_with fail
          refine (HV.out).mono ?_
          rintro r w1 ⟨rfl, hb⟩
          have HB1 := Lib.hid hb
          clear hb
          go_wp2_with fail
          refine (HFR.out w1 HB1.out).mono ?_
          rintro r w2 ⟨rfl, hb⟩
          have HB2 := Lib.hid (HB1.out.trans (hb.mono HB1.out.size))
          clear hb
          go_wp2_with fail
          refine (HN.out w2).mono ?_
          rintro r wq ⟨rfl, rfl⟩
          go_wp2_with fail
          refine (HFI.out w2 HB2.out).mono ?_
          rintro r w3 ⟨rfl, hb⟩
          have HB3 := Lib.hid (HB2.out.trans (hb.mono HB2.out.size))
          clear hb
          go_wp2
          go_ret2
          exact ⟨rfl, HB3.out⟩
      · have ht2 : tblE f n = 2 := by rw [HTE.out, if_neg (fun k => k hz), if_neg (fun k => k hfr), if_neg (fun k => hn k.1)]
        have hv0 : tblV f n = 0 := by rw [HVL.out, if_neg (by rw [ht2]; decide)]
        rw [decide_eq_false hn] at HN
        rw [hfr] at HFR
        rw [hz] at HV
        rw [ht2, hv0]
        clear HTE HVL hfr hn hz ht2 hv0 HC HFI
        go_enter Tryd.func6, Tryd.ntmps6
        go_wp2_with fail
        refine (HV.out).mono ?_
        rintro r w1 ⟨rfl, hb⟩
        have HB1 := Lib.hid hb
        clear hb
        go_wp2_with fail
        refine (HFR.out w1 HB1.out).mono ?_
        rintro r w2 ⟨rfl, hb⟩
        have HB2 := Lib.hid (HB1.out.trans (hb.mono HB1.out.size))
        clear hb
        go_wp2_with fail
        refine (HN.out w2).mono ?_
        rintro r wq ⟨rfl, rfl⟩
        go_wp2
        go_ret2
        exact ⟨rfl, HB2.out⟩
    · have ht2 : tblE f n = 10 := by rw [HTE.out, if_neg (fun k => k hz), if_pos hfr]
      have hv0 : tblV f n = 0 := by rw [HVL.out, if_neg (by rw [ht2]; decide)]
      have hfb : ((maskL fragD (compF f) : Int) != 0) = true := by simpa using hfr
      rw [hz] at HV
      rw [ht2, hv0]
      clear HTE HVL hfr hz ht2 hv0 HC HFI HN
      generalize maskL fragD (compF f) = mk at *
      go_enter Tryd.func6, Tryd.ntmps6
      go_wp2_with fail
      refine (HV.out).mono ?_
      rintro r w1 ⟨rfl, hb⟩
      have HB1 := Lib.hid hb
      clear hb
      go_wp2_with fail
      refine (HFR.out w1 HB1.out).mono ?_
      rintro r w2 ⟨rfl, hb⟩
      have HB2 := Lib.hid (HB1.out.trans (hb.mono HB1.out.size))
      clear hb
      go_wp2
      go_ret2
      exact ⟨rfl, HB2.out⟩
  · have ht2 : tblE f n = fErr f := by rw [HTE.out, if_pos hz]
    have hv0 : tblV f n = 0 := by rw [HVL.out, if_neg (by rw [ht2]; exact hz)]
    have hfb : (fErr f != 0) = true := by simpa using hz
    rw [ht2, hv0]
    clear HTE HVL hz ht2 hv0 HC HFI HN HFR
    generalize fErr f = ef at *
    go_enter Tryd.func6, Tryd.ntmps6
    go_wp2_with fail
    refine (HV.out).mono ?_
    rintro r w1 ⟨rfl, hb⟩
    have HB1 := Lib.hid hb
    clear hb
    go_wp2
    go_ret2
    exact ⟨rfl, HB1.out⟩
end Go.Proofs.YtopkmcoblndokaaDoor
