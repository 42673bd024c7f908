/- Layer 6: texts joined: UTa UTb UTc. -/
import Derived.Test.YtopkmcoblndokaaDoorNTb
import Derived.Test.YtopkmcoblndokaaDoorNTg
import Derived.Test.YtopkmcoblndokaaDoorNTp
/- Layer 10: falseAt, by the program (the seat of ResolutionTables). -/
namespace Go.Proofs.Ws.rsl
def faE (V i : Nat) : Int := if V.testBit i = true then -((i : Int) + 1) else (i : Int) + 1
def faL (V n j : Nat) : List Int := (List.range n).map (fun i => if i < j then faE V i else 0)
theorem faL_len (V n j : Nat) : (faL V n j).length = n := by unfold faL; simp
theorem faL_zero (V n : Nat) : faL V n 0 = List.replicate n 0 := by
  unfold faL
  apply List.ext_getElem
  · simp
  · intro i h1 h2; simp
theorem faL_all (V n : Nat) : faL V n n = falseAt V n := by
  unfold faL falseAt
  refine List.map_congr_left fun i hi => ?_
  rw [if_pos (List.mem_range.1 hi)]; rfl
theorem faL_step (V n j : Nat) : faL V n (j + 1) = (faL V n j).set j (faE V j) := by
  unfold faL
  apply List.ext_getElem
  · simp
  · intro i h1 h2
    rw [List.getElem_set]
    by_cases e : j = i
    · subst e; simp
    · rw [if_neg e]
      simp only [List.getElem_map, List.getElem_range]
      by_cases h : i < j
      · rw [if_pos h, if_pos (by omega)]
      · rw [if_neg h, if_neg (by omega)]
end Go.Proofs.Ws.rsl
namespace Go.Proofs.YtopkmcoblndokaaDoor.rsl
open Go.RowKit Go.Proofs.Ws.rsl
set_option maxRecDepth 100000
theorem wrap_small (z : Int) (h1 : -100 ≤ z) (h2 : z ≤ 100) : IntKind.i64.wrap z = z := by simp [IntKind.wrap, IntKind.bits, IntKind.signed]; omega
set_option maxHeartbeats 4000000 in
theorem xFalseAt_any (V n : Nat) (w : World) (hV : V < 4096) (hn : n ≤ 12) :
    Calls Tryd.prog 16 #[.int .i64 (V : Int), .int .i64 (n : Int)] w fun e w' => e = .returned (.slice (some ⟨w.heap.size, 0, none⟩) n n) ∧ HoldsI w' w.heap.size (falseAt V n) ∧ Below w.heap.size w w' := by
  have hmk := makeI w n (by omega)
  have HM : Hid (HoldsI (w.alloc (.cells (ints (List.replicate n 0)).toArray 3)) w.heap.size (faL V n 0)) := Lib.hid (by rw [faL_zero]; exact HoldsI.made w _)
  have HB1 : Hid (Below w.heap.size w (w.alloc (.cells (ints (List.replicate n 0)).toArray 3))) := Lib.hid ((Below.refl _ w).alloc (Nat.le_refl _) _)
  have HS := Lib.hid (fun m : Nat => bit_i64 V m (by omega))
  go_enter Tryd.func16, Tryd.ntmps16
  go_wp2
  generalize w.alloc (.cells (ints (List.replicate n 0)).toArray 3) = w1 at *
  obtain ⟨G, HGG⟩ : ∃ G, Hid (w.heap.size = G) := ⟨_, Lib.hid rfl⟩
  rw [HGG.out] at HM ⊢
  clear hmk
  go_loopw [11] (fun i wr => ∃ j : Nat, j ≤ n ∧ i = .int .i64 j ∧ Hid (HoldsI wr G (faL V n j)) ∧ Hid (Below w.heap.size w wr)) (fun i _ => n - (intOf i).toNat)
  case atStart => exact ⟨0, Nat.zero_le _, rfl, HM, HB1⟩
  case round =>
    obtain ⟨j, hj, rfl, HH, HO⟩ := hrel
    by_cases hlt : j < n
    · have hl := faL_len V n j
      have HP1 := Lib.hid (HH.out.put j ((j : Int) + 1))
      have HP2 := Lib.hid (HP1.out.put j (-((j : Int) + 1)))
      have hs := HS.out j
      have hfr0 := HH.out.free j
      have hfr1 := HP1.out.free j
      have hc1 := HP1.out.cell j (by rw [List.length_set]; omega)
      rw [show ((faL V n j).set j ((j : Int) + 1)).getD j 0 = (j : Int) + 1 from by rw [List.getD_eq_getElem?_getD, List.getElem?_set_self (by omega)]; rfl] at hc1
      have hst := faL_step V n j
      have hb2 := (HO.out.setCell (p := ⟨G, j, none⟩) (by rw [← HGG.out]; exact Nat.le_refl _) (.int .i64 ((j : Int) + 1)))
      have HB2 := Lib.hid hb2
      have HB3 := Lib.hid (hb2.setCell (p := ⟨G, j, none⟩) (by rw [← HGG.out]; exact Nat.le_refl _) (.int .i64 (-((j : Int) + 1))))
      have p1 : IntKind.i64.wrap (-((j : Int) + 1)) = -((j : Int) + 1) := wrap_small _ (by omega) (by omega)
      have hc0 := HH.out.cell j (by omega)
      clear hb2
      cases hq : V.testBit j with
      | true =>
        have HST : Hid (faL V n (j + 1) = ((faL V n j).set j ((j : Int) + 1)).set j (-((j : Int) + 1))) := Lib.hid (by rw [hst, List.set_set]; unfold faE; rw [if_pos hq])
        rw [hq] at hs
        clear hst hq
        go_wp2
        go_roundw
        case rel => exact ⟨j + 1, by omega, by go_num, Lib.hid (by rw [HST.out]; exact HP2.out), HB3⟩
        case measure => first | (simp [intOf]; done) | (simp [intOf]; omega)
      | false =>
        have HST : Hid (faL V n (j + 1) = (faL V n j).set j ((j : Int) + 1)) := Lib.hid (by rw [hst]; unfold faE; rw [if_neg (by rw [hq]; decide)])
        rw [hq] at hs
        clear hst hq
        go_wp2
        go_roundw
        case rel => exact ⟨j + 1, by omega, by go_num, Lib.hid (by rw [HST.out]; exact HP1.out), HB2⟩
        case measure => first | (simp [intOf]; done) | (simp [intOf]; omega)
    · obtain rfl : j = n := by omega
      have HF : Hid (HoldsI _ G (falseAt V j)) := Lib.hid (by rw [← faL_all]; exact HH.out)
      go_wp2
      go_ret
      exact ⟨by rw [HGG.out]; rfl, by rw [HGG.out]; exact HF.out, HO.out⟩
end Go.Proofs.YtopkmcoblndokaaDoor.rsl
/- Layer 10: Clauses, by the program (the seat of ResolutionTables). -/
namespace Go.Proofs.Ws.rsl
def clUp (T m v : Nat) : List (List Int) := ((List.range v).filter (fun i => !T.testBit i)).map (fun i => falseAt i m)
theorem clUp_all (T m : Nat) : clUp T m (2 ^ m) = clausesOf T m := rfl
theorem clUp_step (T m v : Nat) : clUp T m (v + 1) = clUp T m v ++ (if T.testBit v = true then [] else [falseAt v m]) := by
  unfold clUp
  rw [List.range_succ, List.filter_append, List.map_append]
  congr 1
  by_cases h : T.testBit v = true
  · rw [if_pos h]; simp [h]
  · rw [if_neg h]; simp [h]
theorem clUp_len (T m v : Nat) : (clUp T m v).length ≤ v := by
  unfold clUp
  rw [List.length_map]
  have := List.length_filter_le (fun i => !T.testBit i) (List.range v)
  rw [List.length_range] at this
  exact this
end Go.Proofs.Ws.rsl
namespace Go.Proofs.YtopkmcoblndokaaDoor.rsl
open Go.RowKit Go.Proofs.Ws.rsl
set_option maxRecDepth 100000
theorem bit_u640 (t v : Nat) (ht : t < 18446744073709551616) : (bits .and .u64 ((t : Int) / 2 ^ v) 1 == 0) = !t.testBit v := by
  have e : (t : Int) / 2 ^ v = ((t / 2 ^ v : Nat) : Int) := by push_cast; rfl
  have h := u64_and_nat (t / 2 ^ v) 1 (Nat.lt_of_le_of_lt (Nat.div_le_self _ _) ht) (by decide)
  rw [e, show (1 : Int) = ((1 : Nat) : Int) from rfl, h, Nat.and_one_is_mod, Nat.testBit_eq_decide_div_mod_eq]
  have hm : t / 2 ^ v % 2 < 2 := Nat.mod_lt _ (by decide)
  generalize t / 2 ^ v % 2 = z at *
  have : z = 0 ∨ z = 1 := by omega
  rcases this with rfl | rfl <;> rfl
theorem bit_u641 (t v : Nat) (ht : t < 18446744073709551616) : (bits .and .u64 ((t : Int) / 2 ^ v) 1 == 1) = t.testBit v := by
  have e : (t : Int) / 2 ^ v = ((t / 2 ^ v : Nat) : Int) := by push_cast; rfl
  have h := u64_and_nat (t / 2 ^ v) 1 (Nat.lt_of_le_of_lt (Nat.div_le_self _ _) ht) (by decide)
  rw [e, show (1 : Int) = ((1 : Nat) : Int) from rfl, h, Nat.and_one_is_mod, Nat.testBit_eq_decide_div_mod_eq]
  have hm : t / 2 ^ v % 2 < 2 := Nat.mod_lt _ (by decide)
  generalize t / 2 ^ v % 2 = z at *
  have : z = 0 ∨ z = 1 := by omega
  rcases this with rfl | rfl <;> rfl
theorem falseAt_len (V n : Nat) : (falseAt V n).length = n := by unfold falseAt; simp
def GivesCl (T m : Nat) (w : World) (e : Ending) (w' : World) : Prop := ∃ A c, e = .returned (.tuple #[.slice A (clausesOf T m).length c, .int .i64 0]) ∧ ZsO w' w.heap.size (.slice A (clausesOf T m).length c) (clausesOf T m) ∧ Below w.heap.size w w'
set_option maxHeartbeats 8000000 in
theorem xClauses_ok (T m : Nat) (FA : Value) (w : World) (hm : m ≤ 6) (hT : T < 18446744073709551616)
    (hTB : Calls Tryd.prog 6 #[FA, .int .i64 (m : Int)] w fun e w' => e = .returned (.tuple #[.int .u64 (T : Int), .int .i64 0]) ∧ Below w.heap.size w w') :
    Calls Tryd.prog 5 #[FA, .int .i64 (m : Int)] w (GivesCl T m w) := by
  have HTB := Lib.hid hTB
  obtain ⟨P, hP⟩ : ∃ P : Nat, 2 ^ m = P := ⟨_, rfl⟩
  obtain ⟨hsh, hPle⟩ := pow_shift (k := m) (by omega) hP
  have hP64 : P ≤ 64 := by rw [← hP]; exact Nat.pow_le_pow_right (n := 2) (by decide) hm
  have HSH := Lib.hid hsh
  have HFA := Lib.hid (fun v W (hv : v < 4096) => xFalseAt_any v m W hv (by omega))
  have HBT := Lib.hid (fun v => bit_u640 T v hT)
  have HP := Lib.hid hP
  obtain ⟨i0, hi, hq0, hq1, hq2⟩ := info_parts Tryd.infoZ
  clear hTB hsh hP
  go_enter Tryd.func5, Tryd.ntmps5
  go_wp2_with fail
  refine HTB.out.mono ?_
  rintro e w1 ⟨rfl, hb⟩
  have HB1 := Lib.hid hb
  clear hb
  go_wp2
  rw [HSH.out]
  clear HSH
  go_loopw [8, 21] (fun V i wr => ∃ v : Nat, v ≤ P ∧ i = .int .i64 v ∧ Hid (ZsO wr w.heap.size V (clUp T m v)) ∧ Hid (Below w.heap.size w wr)) (fun _ i _ => P - (intOf i).toNat)
  case atStart => exact ⟨0, Nat.zero_le _, rfl, Lib.hid ⟨[], World.ownsRow_nil _ _ _ _, fun j hj => absurd hj (Nat.not_lt_zero _)⟩, HB1⟩
  case round =>
    obtain ⟨v, hv, rfl, HZ, HO⟩ := hrel
    by_cases hlt : v < P
    · have hbt := HBT.out v
      have hv64 : v < 64 := by omega
      have hst := clUp_step T m v
      have hlen := clUp_len T m v
      cases hq : T.testBit v with
      | true =>
        rw [hq] at hbt
        rw [if_pos hq, List.append_nil] at hst
        rw [← hst] at HZ
        clear hst hq hlen
        go_wp2
        go_roundw
        case rel => exact ⟨v + 1, by omega, by go_num, HZ, HO⟩
        case measure => first | (simp [intOf]; done) | (simp [intOf]; omega)
      | false =>
        rw [hq] at hbt
        rw [if_neg (by rw [hq]; decide)] at hst
        have HST := Lib.hid hst
        have HFJ := Lib.hid (HFA.out v wr (by omega))
        clear hst hq
        go_wp2_with fail
        refine HFJ.out.mono ?_
        rintro e w5 ⟨rfl, hh, hb⟩
        have HO5 := Lib.hid (belowNext HO.out hb)
        obtain ⟨vs, hown, hvr⟩ := HZ.out.below hb
        have HVR := Lib.hid hvr
        have HH := Lib.hid hh
        have hgs : w.heap.size ≤ wr.heap.size := HO.out.size
        have hgl := hh.lt
        clear hb hh hvr HZ
        generalize wr.heap.size = G at *
        generalize hln : (clUp T m v).length = nl at *
        go_wp2_with (at_builtin; refine wpList_append_own _ rfl _ _ 24 rfl w.heap.size 31 i0 (.slice none 0 0) 1 24 Tryd.underlying24 hi hq0 hq1 hq2 rfl (by decide) _ _ _ rfl (hown.alloc _) ⟨w5.heap.size, 0, none⟩ 1 1 [.slice (some ⟨G, 0, none⟩) m m] rfl rfl ?c1 ?c2 ?c3 ?c4 ?c5 ?_)
        case c1 =>
          intro j u hj
          match j, hj with
          | 0, hj => simp at hj; subst hj; simp [Addr.add]
        case c2 => intro u hu; simp at hu; subst hu; rfl
        case c3 => unfold maxLen; omega
        case c4 => omega
        case c5 => have := HO5.out.size; simp; omega
        intro v' w6 hown' hgrow _
        have hba : Below w5.heap.size w5 (w5.alloc (.cells #[.slice (some ⟨G, 0, none⟩) m m] 31)) := (Below.refl _ _).alloc (Nat.le_refl _) _
        have HB6 := Lib.hid ((HO5.out.alloc HO5.out.size _).grown hgrow (by have := HO5.out.size; simp; omega) (fun j hj => (hown.lt j hj).1))
        have HZ6 : Hid (ZsO w6 w.heap.size v' (clUp T m (v + 1))) := Lib.hid (by
          rw [HST.out]
          have h9 := hown'
          rw [← hln] at h9
          have h8 := hown.alloc (.cells #[.slice (some ⟨G, 0, none⟩) m m] 31)
          rw [← hln] at h8
          refine ZsO.snoc (ls := clUp T m v) (x := falseAt v m) (Aj := some ⟨G, 0, none⟩) (cj := m) h8 (fun j hj => ?_) ((HH.out.below hba hgl).ow hgs) (by rw [falseAt_len]; unfold maxLen; omega) hgrow (by rw [falseAt_len]; exact h9)
          obtain ⟨Aj, cj, e0, h5, h6⟩ := HVR.out j (by omega)
          exact ⟨Aj, cj, e0, h5.below hba, h6⟩)
        clear hown hown' hgrow hba HVR HH HO HO5
        go_wp2
        go_roundw
        case rel => exact ⟨v + 1, by omega, by go_num, HZ6, HB6⟩
        case measure => first | (simp [intOf]; done) | (simp [intOf]; omega)
    · obtain rfl : v = P := by omega
      have hz := HZ.out
      rw [← HP.out, clUp_all] at hz
      obtain ⟨A9, c9, rfl⟩ := hz.slice
      have HZ9 := Lib.hid hz
      clear hz HZ
      go_wp2
      go_ret2
      exact ⟨A9, c9, rfl, HZ9.out, HO.out⟩
theorem xClauses_bad (E n : Int) (T : Int) (FA : Value) (w : World) (hE : E ≠ 0)
    (hTB : Calls Tryd.prog 6 #[FA, .int .i64 n] w fun e w' => e = .returned (.tuple #[.int .u64 T, .int .i64 E]) ∧ Below w.heap.size w w') :
    Calls Tryd.prog 5 #[FA, .int .i64 n] w fun e w' => e = .returned (.tuple #[.slice none 0 0, .int .i64 E]) ∧ Below w.heap.size w w' := by
  have HTB := Lib.hid hTB
  have q1 : (E != 0) = true := bne_iff_ne.2 hE
  clear hTB
  go_enter Tryd.func5, Tryd.ntmps5
  go_wp2_with fail
  refine HTB.out.mono ?_
  rintro e w1 ⟨rfl, hb⟩
  have HB1 := Lib.hid hb
  clear hb
  go_wp2
  go_ret2
  exact ⟨rfl, HB1.out⟩
end Go.Proofs.YtopkmcoblndokaaDoor.rsl
/- Layer 10: the law's own satisfied (seat of ResolutionTables). -/
namespace Go.Proofs.YtopkmcoblndokaaDoor.rsl
open Go.RowKit Go.Proofs.Ws.rsl
set_option maxRecDepth 100000
theorem bit_i640 (t v : Nat) (ht : t < 4611686018427387904) : (bits .and .i64 ((t : Int) / 2 ^ v) 1 == 0) = !t.testBit v := by
  have e : (t : Int) / 2 ^ v = ((t / 2 ^ v : Nat) : Int) := by push_cast; rfl
  rw [e, i64_and_one _ (Nat.lt_of_le_of_lt (Nat.div_le_self _ _) ht), Nat.and_one_is_mod, Nat.testBit_eq_decide_div_mod_eq]
  have hm : t / 2 ^ v % 2 < 2 := Nat.mod_lt _ (by decide)
  generalize t / 2 ^ v % 2 = z at *
  have : z = 0 ∨ z = 1 := by omega
  rcases this with rfl | rfl <;> rfl
theorem litT_pos (V m : Nat) : litT V ((m : Int) + 1) = V.testBit m := by
  unfold litT
  rw [lit_pos, decide_eq_true (by omega)]; simp
theorem litT_mns (V m : Nat) : litT V (-((m : Int) + 1)) = !V.testBit m := by
  rw [litT_neg (by omega), litT_pos]
set_option maxHeartbeats 4000000 in
theorem xSfd_any (V : Nat) (c : List Int) (A : Option Addr) (k cap B : Nat) (w : World) (hV : V < 4096) (hcl : ∀ x ∈ c, x ≠ 0 ∧ -12 ≤ x ∧ x ≤ 12) (hR : Reads w B 1 A k (ints c)) (hk : k ≤ maxLen) :
    Calls Tryd.prog 7 #[.slice A k cap, .int .i64 (V : Int)] w fun e w' => e = .returned (.bool (c.any (litT V))) ∧ Below w.heap.size w w' := by
  unfold maxLen at hk
  have HL := Lib.hid hR.int_len
  have HR := Lib.hid hR
  have HC := Lib.hid hcl
  have HS := Lib.hid (fun m : Nat => (⟨bit_i64 V m (by omega), bit_i640 V m (by omega)⟩ : _ ∧ _))
  clear hcl hR
  go_enter Tryd.func7, Tryd.ntmps7
  go_wp2
  go_loopw [9, 46] (fun i _ wr => ∃ j : Nat, j ≤ k ∧ i = .int .i64 j ∧ Hid (c.any (litT V) = (c.drop j).any (litT V)) ∧ Hid (Below w.heap.size w wr ∧ Reads wr B 1 A k (ints c))) (fun i _ _ => k - (intOf i).toNat)
  case atStart => exact ⟨0, Nat.zero_le _, rfl, Lib.hid rfl, Lib.hid ⟨Below.refl _ _, HR.out⟩⟩
  case round =>
    obtain ⟨j, hj, rfl, HI, HO⟩ := hrel
    by_cases hlt : j < k
    · obtain ⟨ad, rfl, _, hcj⟩ := HO.out.2.int_at hlt
      have HD := Lib.hid (drop_getD c j (by have := HL.out; omega))
      have hx := HC.out (c.getD j 0) (getD_mem0 (by have := HL.out; omega))
      generalize c.getD j 0 = x at *
      by_cases hpos : 0 < x
      · obtain ⟨m, rfl⟩ : ∃ m : Nat, x = (m : Int) + 1 := ⟨(x - 1).toNat, by omega⟩
        have hm : m ≤ 11 := by omega
        have hs := (HS.out m).1
        have hs0 := (HS.out m).2
        have p1 : decide ((0 : Int) < (m : Int) + 1) = true := decide_eq_true (by omega)
        have p2 : decide ((m : Int) + 1 ≤ 20) = true := decide_eq_true (by omega)
        have p3 : decide ((m : Int) + 1 < 0) = false := decide_eq_false (by omega)
        have HT := Lib.hid (litT_pos V m)
        have p4 : IntKind.i64.wrap ((m : Int) + 1 - 1) = (m : Int) := by simp [IntKind.wrap, IntKind.bits, IntKind.signed]; omega
        clear hx hpos
        cases hq : V.testBit m with
        | true =>
          rw [hq] at hs hs0
          have HE : Hid (c.any (litT V) = true) := Lib.hid (by rw [HI.out, HD.out, List.any_cons, HT.out, hq]; rfl)
          clear hq HT HD HI
          go_wp2
          go_ret
          exact ⟨ret_bool HE.out.symm, HO.out.1⟩
        | false =>
          rw [hq] at hs hs0
          have HI2 : Hid (c.any (litT V) = (c.drop (j + 1)).any (litT V)) := Lib.hid (by rw [HI.out, HD.out, List.any_cons, HT.out, hq]; rfl)
          clear hq HT HD HI
          go_wp2
          go_roundw
          case rel => exact ⟨j + 1, by omega, by go_num, HI2, HO⟩
          case measure => first | (simp [intOf]; done) | (simp [intOf]; omega)
      · obtain ⟨m, hxm⟩ : ∃ m : Nat, x = -((m : Int) + 1) := ⟨(-x - 1).toNat, by omega⟩
        have hm : m ≤ 11 := by omega
        have hs := (HS.out m).1
        have hs0 := (HS.out m).2
        have p1 : decide ((0 : Int) < x) = false := decide_eq_false (by omega)
        have p2 : decide (-20 ≤ x) = true := decide_eq_true (by omega)
        have p3 : decide (x < 0) = true := decide_eq_true (by omega)
        have HT : Hid (litT V x = !V.testBit m) := Lib.hid (by rw [hxm]; exact litT_mns V m)
        have p5 : IntKind.i64.wrap (-x) = (m : Int) + 1 := by rw [hxm]; simp [IntKind.wrap, IntKind.bits, IntKind.signed]; omega
        have p4 : IntKind.i64.wrap ((m : Int) + 1 - 1) = (m : Int) := by simp [IntKind.wrap, IntKind.bits, IntKind.signed]; omega
        clear hx hpos hxm
        cases hq : V.testBit m with
        | false =>
          rw [hq] at hs hs0
          have HE : Hid (c.any (litT V) = true) := Lib.hid (by rw [HI.out, HD.out, List.any_cons, HT.out, hq]; rfl)
          clear hq HT HD HI
          go_wp2
          go_ret
          exact ⟨ret_bool HE.out.symm, HO.out.1⟩
        | true =>
          rw [hq] at hs hs0
          have HI2 : Hid (c.any (litT V) = (c.drop (j + 1)).any (litT V)) := Lib.hid (by rw [HI.out, HD.out, List.any_cons, HT.out, hq]; rfl)
          clear hq HT HD HI
          go_wp2
          go_roundw
          case rel => exact ⟨j + 1, by omega, by go_num, HI2, HO⟩
          case measure => first | (simp [intOf]; done) | (simp [intOf]; omega)
    · have HE : Hid (c.any (litT V) = false) := Lib.hid (by rw [HI.out, List.drop_eq_nil_of_le (by have := HL.out; omega)]; rfl)
      go_wp2
      go_ret
      exact ⟨ret_bool HE.out.symm, HO.out.1⟩
end Go.Proofs.YtopkmcoblndokaaDoor.rsl
