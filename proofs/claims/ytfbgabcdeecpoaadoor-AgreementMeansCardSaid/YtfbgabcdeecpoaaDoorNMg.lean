/- Layer 6: texts joined: Yd Ye Yf. -/
import Derived.Test.YtfbgabcdeecpoaaDoorNMf
/- Layer 24: events, weights and fractions on both sides. -/
namespace Go.Proofs.YtfbgabcdeecpoaaDoor
open Go.RowKit Go.Proofs.Ws
set_option maxRecDepth 100000
theorem evE_bad {p : Pri} {s : Nat} (h : chkP p ≠ 0) : evE p s = chkP p := by unfold evE; rw [if_neg h]
theorem evE_in {p : Pri} {s : Nat} (h : chkP p = 0) (h2 : s < 2 ^ p.wt.length) : evE p s = 0 := by unfold evE; rw [if_pos h, if_pos h2]
theorem evE_out {p : Pri} {s : Nat} (h : chkP p = 0) (h2 : ¬ s < 2 ^ p.wt.length) : evE p s = 2 := by unfold evE; rw [if_pos h, if_neg h2]
theorem aEv_any (p : Pri) (v : Value) (s : Nat) (w : World) (hM : PrR w w.heap.size v p) (hs : s < 18446744073709551616) :
    Calls Tryd.prog 55 #[v, .int .u64 s] w fun e w' => e = .returned (.int .i64 (evE p s)) ∧ Below w.heap.size w w' := by
  obtain ⟨A1, c1, A2, c2, rfl, hv, hr⟩ := hM.ex
  have HB1 : Hid (Below w.heap.size w (w.alloc (.cells #[.slice A1 p.wt.length c1, .slice A2 p.cells.length c2] 25))) := Lib.hid ((Below.refl _ w).alloc (Nat.le_refl _) _)
  have HPB := Lib.hid (PBox.made w (.slice A1 p.wt.length c1) (.slice A2 p.cells.length c2))
  have HC := Lib.hid (aCheck_any p _ _ (hM.step HB1.out))
  clear hM hv hr
  by_cases h0 : chkP p = 0
  · have hok := chkP_ok h0
    have hle := hok.le
    rw [h0] at HC
    have HA := Lib.hid (fun W => wAll_any (p.wt.length : Int) W)
    have HO := outside_in s (p.wt.length : Int) hs ⟨by omega, by omega⟩
    rw [show ((p.wt.length : Nat) : Int).toNat = p.wt.length from rfl] at HO
    by_cases h1 : s < 2 ^ p.wt.length
    · have HV := Lib.hid (evE_in h0 h1)
      rw [decide_eq_true h1, Bool.not_true] at HO
      clear h0 h1 hok hs
      generalize p.wt.length = n at *
      generalize p.cells.length = m at *
      go_enter Tryd.func55, Tryd.ntmps55
      go_wp2_with fail
      refine (HC.out).mono ?_
      rintro e w2 ⟨rfl, hb⟩
      have HPB2 := HPB.out.below hb HPB.out.lt
      have b0 := HPB2.c0
      have HB2 := Lib.hid (HB1.out.trans (hb.mono HB1.out.size))
      clear hb HPB2
      go_wp2_with fail
      refine (HA.out _).mono ?_
      rintro e w3 ⟨rfl, rfl⟩
      go_wp2
      go_ret
      exact ⟨ret_i64 HV.out.symm, HB2.out⟩
    · have HV := Lib.hid (evE_out h0 h1)
      rw [decide_eq_false h1, Bool.not_false] at HO
      clear h0 h1 hok hs
      generalize p.wt.length = n at *
      generalize p.cells.length = m at *
      go_enter Tryd.func55, Tryd.ntmps55
      go_wp2_with fail
      refine (HC.out).mono ?_
      rintro e w2 ⟨rfl, hb⟩
      have HPB2 := HPB.out.below hb HPB.out.lt
      have b0 := HPB2.c0
      have HB2 := Lib.hid (HB1.out.trans (hb.mono HB1.out.size))
      clear hb HPB2
      go_wp2_with fail
      refine (HA.out _).mono ?_
      rintro e w3 ⟨rfl, rfl⟩
      go_wp2
      go_ret
      exact ⟨ret_i64 HV.out.symm, HB2.out⟩
  · have HV := Lib.hid (evE_bad (s := s) h0)
    have hz : (chkP p != 0) = true := by rw [bne_iff_ne]; exact h0
    clear h0 hs
    generalize chkP p = E at *
    generalize p.wt.length = n at *
    generalize p.cells.length = m at *
    go_enter Tryd.func55, Tryd.ntmps55
    go_wp2_with fail
    refine (HC.out).mono ?_
    rintro e w2 ⟨rfl, hb⟩
    have HB2 := Lib.hid (HB1.out.trans (hb.mono HB1.out.size))
    clear hb
    go_wp2
    go_ret
    exact ⟨ret_i64 HV.out.symm, HB2.out⟩
theorem rEv_any (p : Pri) (v : Value) (s : Nat) (w : World) (hM : PrR w w.heap.size v p) (hs : s < 18446744073709551616) :
    Calls Tryd.prog 53 #[v, .int .u64 s] w fun e w' => e = .returned (.int .i64 (evE p s)) ∧ Below w.heap.size w w' := by
  obtain ⟨A1, c1, A2, c2, rfl, hv, hr⟩ := hM.ex
  have HB1 : Hid (Below w.heap.size w (w.alloc (.cells #[.slice A1 p.wt.length c1, .slice A2 p.cells.length c2] 25))) := Lib.hid ((Below.refl _ w).alloc (Nat.le_refl _) _)
  have HPB := Lib.hid (PBox.made w (.slice A1 p.wt.length c1) (.slice A2 p.cells.length c2))
  have HC := Lib.hid (rCheck_pr p _ _ (hM.step HB1.out))
  clear hM hv hr
  by_cases h0 : chkP p = 0
  · have hok := chkP_ok h0
    have hle := hok.le
    rw [h0] at HC
    have HA := Lib.hid (fun W => rAll01_any (p.wt.length : Int) W)
    have HO := outside_in s (p.wt.length : Int) hs ⟨by omega, by omega⟩
    rw [show ((p.wt.length : Nat) : Int).toNat = p.wt.length from rfl] at HO
    by_cases h1 : s < 2 ^ p.wt.length
    · have HV := Lib.hid (evE_in h0 h1)
      rw [decide_eq_true h1, Bool.not_true] at HO
      clear h0 h1 hok hs
      generalize p.wt.length = n at *
      generalize p.cells.length = m at *
      go_enter Tryd.func53, Tryd.ntmps53
      go_wp2_with fail
      refine (HC.out).mono ?_
      rintro e w2 ⟨rfl, hb⟩
      have HPB2 := HPB.out.below hb HPB.out.lt
      have b0 := HPB2.c0
      have HB2 := Lib.hid (HB1.out.trans (hb.mono HB1.out.size))
      clear hb HPB2
      go_wp2_with fail
      refine (HA.out _).mono ?_
      rintro e w3 ⟨rfl, rfl⟩
      go_wp2
      go_ret
      exact ⟨ret_i64 HV.out.symm, HB2.out⟩
    · have HV := Lib.hid (evE_out h0 h1)
      rw [decide_eq_false h1, Bool.not_false] at HO
      clear h0 h1 hok hs
      generalize p.wt.length = n at *
      generalize p.cells.length = m at *
      go_enter Tryd.func53, Tryd.ntmps53
      go_wp2_with fail
      refine (HC.out).mono ?_
      rintro e w2 ⟨rfl, hb⟩
      have HPB2 := HPB.out.below hb HPB.out.lt
      have b0 := HPB2.c0
      have HB2 := Lib.hid (HB1.out.trans (hb.mono HB1.out.size))
      clear hb HPB2
      go_wp2_with fail
      refine (HA.out _).mono ?_
      rintro e w3 ⟨rfl, rfl⟩
      go_wp2
      go_ret
      exact ⟨ret_i64 HV.out.symm, HB2.out⟩
  · have HV := Lib.hid (evE_bad (s := s) h0)
    have hz : (chkP p != 0) = true := by rw [bne_iff_ne]; exact h0
    clear h0 hs
    generalize chkP p = E at *
    generalize p.wt.length = n at *
    generalize p.cells.length = m at *
    go_enter Tryd.func53, Tryd.ntmps53
    go_wp2_with fail
    refine (HC.out).mono ?_
    rintro e w2 ⟨rfl, hb⟩
    have HB2 := Lib.hid (HB1.out.trans (hb.mono HB1.out.size))
    clear hb
    go_wp2
    go_ret
    exact ⟨ret_i64 HV.out.symm, HB2.out⟩
theorem aHasW_any (p : Pri) (v : Value) (x : Int) (w : World) (hM : PrR w w.heap.size v p) :
    Calls Tryd.prog 42 #[v, .int .i64 x] w fun e w' => e = .returned (.bool (decide (0 ≤ x ∧ x < p.wt.length))) ∧ Below w.heap.size w w' := by
  obtain ⟨A1, c1, A2, c2, rfl, hv, hr⟩ := hM.ex
  have hB : Hid (Below w.heap.size w (w.alloc (.cells #[.slice A1 p.wt.length c1, .slice A2 p.cells.length c2] 25))) := Lib.hid ((Below.refl _ w).alloc (Nat.le_refl _) _)
  clear hM hv hr
  generalize p.wt.length = n at *
  by_cases h0 : 0 ≤ x
  · have d0 : decide (0 ≤ x) = true := decide_eq_true h0
    by_cases h1 : x < (n : Int)
    · have d1 : decide (x < (n : Int)) = true := decide_eq_true h1
      have HV : Hid (decide (0 ≤ x ∧ x < (n : Int)) = true) := Lib.hid (decide_eq_true ⟨h0, h1⟩)
      clear h0 h1
      go_enter Tryd.func42, Tryd.ntmps42
      go_wp2
      go_ret
      exact ⟨ret_bool HV.out.symm, hB.out⟩
    · have d1 : decide (x < (n : Int)) = false := decide_eq_false h1
      have HV : Hid (decide (0 ≤ x ∧ x < (n : Int)) = false) := Lib.hid (decide_eq_false (fun h => h1 h.2))
      clear h0 h1
      go_enter Tryd.func42, Tryd.ntmps42
      go_wp2
      go_ret
      exact ⟨ret_bool HV.out.symm, hB.out⟩
  · have d0 : decide (0 ≤ x) = false := decide_eq_false h0
    have HV : Hid (decide (0 ≤ x ∧ x < (n : Int)) = false) := Lib.hid (decide_eq_false (fun h => h0 h.1))
    clear h0
    go_enter Tryd.func42, Tryd.ntmps42
    go_wp2
    go_ret
    exact ⟨ret_bool HV.out.symm, hB.out⟩
theorem lsum_take (wt : List Int) (l : List Nat) (j : Nat) (h : j < l.length) : lsum wt (l.take (j + 1)) = lsum wt (l.take j) + (wt.getD (l.getD j 0) 0).toNat := by
  rw [List.take_succ_eq_append_getElem h, lsum_append, List.getD_eq_getElem?_getD (l := l), List.getElem?_eq_getElem h]
  simp [lsum]
set_option maxHeartbeats 4000000 in
theorem aWeight_any (p : Pri) (v : Value) (s : Nat) (w : World) (hM : PrR w w.heap.size v p) (hok : OkP p) (hs : s < 2 ^ p.wt.length) (hT : Tab w) :
    Calls Tryd.prog 78 #[v, .int .u64 s] w fun e w' => e = .returned (.int .i64 ((wOf p.wt s : Nat) : Int)) ∧ Below w.heap.size w w' := by
  obtain ⟨A1, c1, A2, c2, rfl, hv, hr⟩ := hM.ex
  have hs64 : s < 18446744073709551616 := Nat.lt_of_lt_of_le hs (Nat.pow_le_pow_right (show 0 < 2 by decide) (show p.wt.length ≤ 64 from hok.le))
  have HMB := Lib.hid (fun x (hx : x ∈ mem s) => bit_lt hs ((mem_iff s x).1 hx).2)
  have HSUM := Lib.hid (lsum_mem hok.le hs)
  have HLE := Lib.hid (fun l => lsum_le p.wt (fun x hx => (hok.w x hx).2) l)
  have HWR := Lib.hid (fun x (hx : x ∈ p.wt) => hok.w x hx)
  have hml := mem_length_le s
  have HB1 : Hid (Below w.heap.size w (w.alloc (.cells #[.slice A1 p.wt.length c1, .slice A2 p.cells.length c2] 25))) := Lib.hid ((Below.refl _ w).alloc (Nat.le_refl _) _)
  have HPB := Lib.hid (PBox.made w (.slice A1 p.wt.length c1) (.slice A2 p.cells.length c2))
  have HMM := Lib.hid (wMembers_own s (w.alloc (.cells #[.slice A1 p.wt.length c1, .slice A2 p.cells.length c2] 25)) hs64 (hT.below ((Below.refl _ w).alloc (Nat.le_refl _) _)))
  have HV := Lib.hid hv
  clear hM hv hr hok hs hs64 hT
  obtain ⟨wt, cells⟩ := p
  dsimp only at *
  generalize hn : wt.length = n at *
  have HN := Lib.hid hn
  clear hn
  go_enter Tryd.func78, Tryd.ntmps78
  go_wp2_with fail
  refine (HMM.out).mono ?_
  rintro e w2 ⟨A, c, rfl, ho, hb⟩
  have HB2 := Lib.hid (HB1.out.trans (hb.mono HB1.out.size))
  have HPB2 := Lib.hid (HPB.out.below hb (HPB.out.lt))
  have HRL := Lib.hid (Reads.of_own ho)
  have b0 := HPB2.out.c0
  clear ho hb HMM
  generalize mem s = L at *
  go_wp2
  go_loopw [5, 7, 11] (fun s _ i wr => ∃ j : Nat, j ≤ L.length ∧ i = .int .i64 j ∧ s = .int .i64 ((lsum wt (L.take j) : Nat) : Int) ∧ w2 = wr) (fun _ _ i _ => L.length - (intOf i).toNat)
  case atStart => exact ⟨0, Nat.zero_le _, rfl, by simp [lsum], by first | rfl | trivial⟩
  case round =>
    obtain ⟨j, hj, rfl, rfl, rfl⟩ := hrel
    by_cases hlt : j < L.length
    · obtain ⟨ad, rfl, had, hcell⟩ := HRL.out.iv_k hlt
      have hx : L.getD j 0 < n := HMB.out _ (getD_memP hlt)
      obtain ⟨bd, rfl, hbd, hcell2⟩ := (HV.out.below HB2.out).int_at hx
      have hS := lsum_take wt L j hlt
      have hS1 := HLE.out (L.take j)
      have hS2 := HLE.out (L.take (j + 1))
      rw [List.length_take, Nat.min_eq_left (by omega)] at hS1 hS2
      have hw1 := HWR.out (wt.getD (L.getD j 0) 0) (getD_memP (by rw [HN.out]; exact hx))
      generalize wt.getD (L.getD j 0) 0 = z at *
      generalize L.getD j 0 = x at *
      generalize lsum wt (L.take j) = a at *
      obtain ⟨zn, rfl⟩ := Int.eq_ofNat_of_zero_le (show 0 ≤ z by omega)
      have HA2 : Hid (((lsum wt (L.take (j + 1)) : Nat) : Int) = (a : Int) + (zn : Int)) := Lib.hid (by rw [hS, Int.toNat_natCast]; omega)
      clear hS hS2
      go_wp2
      go_roundw
      case rel => exact ⟨j + 1, by omega, by go_num, by rw [HA2.out], by first | rfl | trivial⟩
      case measure => first | (simp [intOf]; done) | (simp [intOf]; omega)
    · obtain rfl : j = L.length := by omega
      have HE : Hid (lsum wt (L.take L.length) = wOf wt s) := Lib.hid (by rw [List.take_length, HSUM.out])
      go_wp2
      go_ret
      exact ⟨ret_i64 (by rw [HE.out]), HB2.out⟩
set_option maxHeartbeats 4000000 in
theorem rWeight_any (p : Pri) (v : Value) (s : Nat) (w : World) (hM : PrR w w.heap.size v p) (hok : OkP p) (hs : s < 18446744073709551616) :
    Calls Tryd.prog 36 #[v, .int .u64 s] w fun e w' => e = .returned (.int .i64 ((wOf p.wt s : Nat) : Int)) ∧ Below w.heap.size w w' := by
  obtain ⟨A1, c1, A2, c2, rfl, hv, hr⟩ := hM.ex
  have HLE := Lib.hid (fun k hk => wsum_le hok s (k := k) hk)
  have HWR := Lib.hid (fun x (hx : x ∈ p.wt) => hok.w x hx)
  have hle := hok.le
  have HB1 : Hid (Below w.heap.size w (w.alloc (.cells #[.slice A1 p.wt.length c1, .slice A2 p.cells.length c2] 25))) := Lib.hid ((Below.refl _ w).alloc (Nat.le_refl _) _)
  have HPB := Lib.hid (PBox.made w (.slice A1 p.wt.length c1) (.slice A2 p.cells.length c2))
  have HHA := Lib.hid (fun (n : Int) W => rHas01_any s n W hs)
  have HV := Lib.hid hv
  clear hM hv hr hok hs
  obtain ⟨wt, cells⟩ := p
  dsimp only at *
  have HG : Hid (wOf wt s = wsum wt s wt.length) := Lib.hid rfl
  generalize hn : wt.length = n at *
  have HN := Lib.hid hn
  clear hn
  go_enter Tryd.func36, Tryd.ntmps36
  go_wp2
  generalize w.alloc (.cells #[.slice A1 n c1, .slice A2 cells.length c2] 25) = w1 at *
  have b0 := HPB.out.c0
  go_loopw [5, 6] (fun s' i wr => ∃ j : Nat, j ≤ n ∧ i = .int .i64 j ∧ s' = .int .i64 ((wsum wt s j : Nat) : Int) ∧ w1 = wr) (fun _ i _ => n - (intOf i).toNat)
  case atStart => exact ⟨0, Nat.zero_le _, rfl, by simp [wsum, sumN], by first | rfl | trivial⟩
  case round =>
    obtain ⟨j, hj, rfl, rfl, rfl⟩ := hrel
    by_cases hlt : j < n
    · obtain ⟨bd, rfl, hbd, hcell2⟩ := (HV.out.below HB1.out).int_at hlt
      have hS : wsum wt s (j + 1) = wsum wt s j + wAt wt s j := rfl
      have hS1 := HLE.out j (by omega)
      have hw1 := HWR.out (wt.getD j 0) (getD_memP (by rw [HN.out]; exact hlt))
      have hH : hasB s (j : Int) = s.testBit j := by unfold hasB; rw [decide_eq_true (by omega)]; simp
      have HH := Lib.hid (HHA.out (j : Int) w1)
      rw [hH] at HH
      unfold wAt at hS
      clear hH
      by_cases hb : s.testBit j = true
      · rw [if_pos hb] at hS
        rw [hb] at HH
        clear hb
        generalize wt.getD j 0 = z at *
        generalize wsum wt s j = a at *
        obtain ⟨zn, rfl⟩ := Int.eq_ofNat_of_zero_le (show 0 ≤ z by omega)
        have HA2 : Hid (((wsum wt s (j + 1) : Nat) : Int) = (a : Int) + (zn : Int)) := Lib.hid (by rw [hS, Int.toNat_natCast]; omega)
        clear hS
        go_wp2_with fail
        refine (HH.out).mono ?_
        rintro e w2 ⟨rfl, rfl⟩
        go_wp2
        go_roundw
        case rel => exact ⟨j + 1, by omega, by go_num, by rw [HA2.out], by first | rfl | trivial⟩
        case measure => first | (simp [intOf]; done) | (simp [intOf]; omega)
      · have hb2 : s.testBit j = false := by simpa using hb
        rw [if_neg hb] at hS
        rw [hb2] at HH
        have HS := Lib.hid hS
        clear hb hb2 hS
        go_wp2_with fail
        refine (HH.out).mono ?_
        rintro e w2 ⟨rfl, rfl⟩
        go_wp2
        go_roundw
        case rel => exact ⟨j + 1, by omega, by go_num, by rw [HS.out, Nat.add_zero], by first | rfl | trivial⟩
        case measure => first | (simp [intOf]; done) | (simp [intOf]; omega)
    · obtain rfl : j = n := by omega
      go_wp2
      go_ret
      exact ⟨ret_i64 (by rw [HG.out]), HB1.out⟩
end Go.Proofs.YtfbgabcdeecpoaaDoor
/- Layer 24: fractions in lowest terms on both sides. -/
namespace Go.Proofs.YtfbgabcdeecpoaaDoor
open Go.RowKit Go.Proofs.Ws
set_option maxRecDepth 100000
/-- a box of a fraction -/
def FBox (W : World) (g : Nat) (a b : Value) : Prop := W.heap[g]? = some (.cells #[a, b] 41 (0, 0))
section
variable {W W' : World} {g : Nat} {a b : Value}
theorem FBox.c0 (h : FBox W g a b) : W.cell? ⟨g, 0, none⟩ = some a := by rw [Lib.cell_of_heap h]; rfl
theorem FBox.c1 (h : FBox W g a b) : W.cell? ⟨g, 1, none⟩ = some b := by rw [Lib.cell_of_heap h]; rfl
theorem FBox.free (h : FBox W g a b) (k : Nat) : W.frozen? ⟨g, k, none⟩ = false := Lib.frozen_of_heap h k
theorem FBox.lt (h : FBox W g a b) : g < W.heap.size := (Array.getElem?_eq_some_iff.1 h).1
theorem FBox.below {B : Nat} (h : FBox W g a b) (hb : Below B W W') (hg : g < B) : FBox W' g a b := (hb.block g hg).trans h
theorem FBox.made (W : World) (a b : Value) : FBox (W.alloc (.cells #[a, b] 41)) W.heap.size a b := heap_alloc_new W _
theorem FBox.set2 (h : FBox W g a b) (x y : Value) : FBox ((W.setCell ⟨g, 0, none⟩ x).setCell ⟨g, 1, none⟩ y) g x y ∧ OnlyB g W ((W.setCell ⟨g, 0, none⟩ x).setCell ⟨g, 1, none⟩ y) := by
  unfold FBox at *
  refine ⟨by simp [World.setCell, Array.getElem?_modify, h], (OnlyB.set g 0 W x).trans (OnlyB.set g 1 _ y)⟩
end
/-- a fraction's value -/
def frV (q : Nat × Nat) : Value := .agg #[.int .i64 (q.1 : Int), .int .i64 (q.2 : Int)]
theorem gcd_step (a b : Nat) (_h : b ≠ 0) : Nat.gcd b (a % b) = Nat.gcd a b := by
  rw [Nat.gcd_comm b, ← Nat.gcd_rec, Nat.gcd_comm]
theorem tmod_nn (a b : Nat) : Int.tmod (a : Int) (b : Int) = ((a % b : Nat) : Int) := by simp [Int.tmod_eq_emod_of_nonneg]
theorem tdiv_nn (a b : Nat) : Int.tdiv (a : Int) (b : Int) = ((a / b : Nat) : Int) := by simp [Int.tdiv_eq_ediv_of_nonneg]
theorem wrap_small (n : Nat) (h : n ≤ 64000) : wrap64 (n : Int) = (n : Int) := IntWalk.wrap64_in _ ⟨by omega, by omega⟩
set_option maxHeartbeats 4000000 in
theorem aLowest_any (x y : Nat) (w : World) (hx : x ≤ 64000) (hy : 0 < y ∧ y ≤ 64000) :
    Calls Tryd.prog 77 #[.int .i64 (x : Int), .int .i64 (y : Int)] w fun e w' => e = .returned (frV (redN x y)) ∧ Below w.heap.size w w' := by
  have HF := Lib.hid (FBox.made w (.int .i64 0) (.int .i64 0))
  have HB := Lib.hid ((Below.refl _ w).alloc (Nat.le_refl _) (.cells #[.int .i64 0, .int .i64 0] 41))
  go_enter Tryd.func77, Tryd.ntmps77
  go_wp2
  generalize w.alloc (.cells #[.int .i64 0, .int .i64 0] 41) = w1 at *
  go_loopw [5, 6] (fun d r wr => ∃ a b : Nat, d = .int .i64 (a : Int) ∧ r = .int .i64 (b : Int) ∧ Hid (0 < a ∧ a ≤ 64000 ∧ b ≤ 64000 ∧ Nat.gcd a b = Nat.gcd x y) ∧ ∃ q, wr = w1.drewN q) (fun _ r _ => (intOf r).toNat)
  case atStart => exact ⟨y, x, rfl, rfl, Lib.hid ⟨hy.1, hy.2, hx, Nat.gcd_comm _ _⟩, 0, by first | rfl | trivial⟩
  case round =>
    obtain ⟨a, b, rfl, rfl, HI, q, rfl⟩ := hrel
    have ha := HI.out.1
    have ha2 := HI.out.2.1
    have hb2 := HI.out.2.2.1
    by_cases hb : b = 0
    · subst hb
      have HG : Hid (a = Nat.gcd x y) := Lib.hid (by rw [← HI.out.2.2.2, Nat.gcd_zero_right])
      have hne : ((a : Int) == 0) = false := by rw [beq_eq_false_iff_ne]; omega
      have t1 := tdiv_nn x a
      have t2 := tdiv_nn y a
      have hd1 : x / a ≤ 64000 := Nat.le_trans (Nat.div_le_self _ _) hx
      have hd2 : y / a ≤ 64000 := Nat.le_trans (Nat.div_le_self _ _) hy.2
      have hF0 := HF.out
      have c0 := hF0.c0
      have c1 := hF0.c1
      have f0 := hF0.free 0
      have f1 := hF0.free 1
      clear hF0 HI
      have t3 : wrap64 ((x : Int) / (a : Int)) = ((x / a : Nat) : Int) := by rw [show ((x : Int) / (a : Int)) = ((x / a : Nat) : Int) by simp]; exact wrap_small _ hd1
      have t4 : wrap64 ((y : Int) / (a : Int)) = ((y / a : Nat) : Int) := by rw [show ((y : Int) / (a : Int)) = ((y / a : Nat) : Int) by simp]; exact wrap_small _ hd2
      have HE : Hid (redN x y = (x / a, y / a)) := Lib.hid (by unfold redN; rw [← HG.out])
      clear HG hd1 hd2 t1 t2
      generalize x / a = xa at *
      generalize y / a = ya at *
      go_wp2
      go_region
      go_wp2
      have HS := Lib.hid (HF.out.set2 (.int .i64 (xa : Int)) (.int .i64 (ya : Int)))
      have HZ : Hid (FBox (((w1.drewN (q + 1)).setCell ⟨w.heap.size, 0, none⟩ (.int .i64 (xa : Int))).setCell ⟨w.heap.size, 1, none⟩ (.int .i64 (ya : Int))) w.heap.size (.int .i64 (xa : Int)) (.int .i64 (ya : Int)) ∧ OnlyB w.heap.size (w1.drewN (q + 1)) (((w1.drewN (q + 1)).setCell ⟨w.heap.size, 0, none⟩ (.int .i64 (xa : Int))).setCell ⟨w.heap.size, 1, none⟩ (.int .i64 (ya : Int)))) := Lib.hid (FBox.set2 (W := w1.drewN (q + 1)) HF.out _ _)
      clear HS
      generalize (((w1.drewN (q + 1)).setCell ⟨w.heap.size, 0, none⟩ (.int .i64 (xa : Int))).setCell ⟨w.heap.size, 1, none⟩ (.int .i64 (ya : Int))) = w7 at *
      refine bodyPost_ret (ret_cell1 rfl _ _ w.heap.size _ _ _ _ rfl HZ.out.1 Tryd.underlying41 rfl (by kernel_rfl)) rfl ?_
      rw [HE.out]
      exact ⟨rfl, (below_drewN HB.out (q + 1)).trans (HZ.out.2.below (Nat.le_refl _) (Nat.le_of_lt HF.out.lt))⟩
    · have hne : ((b : Int) != 0) = true := by rw [bne_iff_ne]; omega
      have hne2 : ((b : Int) == 0) = false := by rw [beq_eq_false_iff_ne]; omega
      have t1 := tmod_nn a b
      have hlt : a % b < b := Nat.mod_lt _ (by omega)
      have HI2 : Hid (0 < b ∧ b ≤ 64000 ∧ a % b ≤ 64000 ∧ Nat.gcd b (a % b) = Nat.gcd x y) := Lib.hid ⟨by omega, hb2, by omega, by rw [gcd_step a b hb]; exact HI.out.2.2.2⟩
      clear HI hb
      go_wp2
      go_quiet (fail)
      have e2 : ((a : Int) % (b : Int)) = ((a % b : Nat) : Int) := by simp
      rw [e2]
      clear e2 t1
      generalize a % b = c at *
      go_roundw
      case rel => exact ⟨_, _, _, _, _, _, _, _, ⟨b, c, rfl, rfl, HI2, q + nq, by simp⟩, rfl⟩
      case measure => simp [intOf]; omega
set_option maxHeartbeats 4000000 in
theorem rReduce_any (x y : Nat) (w : World) (hx : x ≤ 64000) (hy : 0 < y ∧ y ≤ 64000) :
    Calls Tryd.prog 75 #[.int .i64 (x : Int), .int .i64 (y : Int)] w fun e w' => e = .returned (frV (redN x y)) ∧ Below w.heap.size w w' := by
  have HF := Lib.hid (FBox.made w (.int .i64 0) (.int .i64 0))
  have HB := Lib.hid ((Below.refl _ w).alloc (Nat.le_refl _) (.cells #[.int .i64 0, .int .i64 0] 41))
  go_enter Tryd.func75, Tryd.ntmps75
  go_wp2
  generalize w.alloc (.cells #[.int .i64 0, .int .i64 0] 41) = w1 at *
  go_loopw [5, 6] (fun d r wr => ∃ a b : Nat, d = .int .i64 (a : Int) ∧ r = .int .i64 (b : Int) ∧ Hid (a ≤ 64000 ∧ b ≤ 64000 ∧ Nat.gcd a b = Nat.gcd x y) ∧ ∃ q, wr = w1.drewN q) (fun _ r _ => (intOf r).toNat)
  case atStart => exact ⟨x, y, rfl, rfl, Lib.hid ⟨hx, hy.2, rfl⟩, 0, by first | rfl | trivial⟩
  case round =>
    obtain ⟨a, b, rfl, rfl, HI, q, rfl⟩ := hrel
    have ha2 := HI.out.1
    have hb2 := HI.out.2.1
    by_cases hb : b = 0
    · subst hb
      have HG : Hid (a = Nat.gcd x y) := Lib.hid (by rw [← HI.out.2.2, Nat.gcd_zero_right])
      have ha : 0 < a := by rw [HG.out]; exact Nat.gcd_pos_of_pos_right _ hy.1
      have hne : ((a : Int) == 0) = false := by rw [beq_eq_false_iff_ne]; omega
      have t1 := tdiv_nn x a
      have t2 := tdiv_nn y a
      have hd1 : x / a ≤ 64000 := Nat.le_trans (Nat.div_le_self _ _) hx
      have hd2 : y / a ≤ 64000 := Nat.le_trans (Nat.div_le_self _ _) hy.2
      have hF0 := HF.out
      have c0 := hF0.c0
      have c1 := hF0.c1
      have f0 := hF0.free 0
      have f1 := hF0.free 1
      clear hF0 HI
      have t3 : wrap64 ((x : Int) / (a : Int)) = ((x / a : Nat) : Int) := by rw [show ((x : Int) / (a : Int)) = ((x / a : Nat) : Int) by simp]; exact wrap_small _ hd1
      have t4 : wrap64 ((y : Int) / (a : Int)) = ((y / a : Nat) : Int) := by rw [show ((y : Int) / (a : Int)) = ((y / a : Nat) : Int) by simp]; exact wrap_small _ hd2
      have HE : Hid (redN x y = (x / a, y / a)) := Lib.hid (by unfold redN; rw [← HG.out])
      clear HG hd1 hd2 t1 t2
      generalize x / a = xa at *
      generalize y / a = ya at *
      go_wp2
      go_region
      go_wp2
      have HS := Lib.hid (HF.out.set2 (.int .i64 (xa : Int)) (.int .i64 (ya : Int)))
      have HZ : Hid (FBox (((w1.drewN (q + 1)).setCell ⟨w.heap.size, 0, none⟩ (.int .i64 (xa : Int))).setCell ⟨w.heap.size, 1, none⟩ (.int .i64 (ya : Int))) w.heap.size (.int .i64 (xa : Int)) (.int .i64 (ya : Int)) ∧ OnlyB w.heap.size (w1.drewN (q + 1)) (((w1.drewN (q + 1)).setCell ⟨w.heap.size, 0, none⟩ (.int .i64 (xa : Int))).setCell ⟨w.heap.size, 1, none⟩ (.int .i64 (ya : Int)))) := Lib.hid (FBox.set2 (W := w1.drewN (q + 1)) HF.out _ _)
      clear HS
      generalize (((w1.drewN (q + 1)).setCell ⟨w.heap.size, 0, none⟩ (.int .i64 (xa : Int))).setCell ⟨w.heap.size, 1, none⟩ (.int .i64 (ya : Int))) = w7 at *
      refine bodyPost_ret (ret_cell1 rfl _ _ w.heap.size _ _ _ _ rfl HZ.out.1 Tryd.underlying41 rfl (by kernel_rfl)) rfl ?_
      rw [HE.out]
      exact ⟨rfl, (below_drewN HB.out (q + 1)).trans (HZ.out.2.below (Nat.le_refl _) (Nat.le_of_lt HF.out.lt))⟩
    · have hne : decide ((0 : Int) < (b : Int)) = true := decide_eq_true (by omega)
      have hne2 : ((b : Int) == 0) = false := by rw [beq_eq_false_iff_ne]; omega
      have t1 := tmod_nn a b
      have hlt : a % b < b := Nat.mod_lt _ (by omega)
      have HI2 : Hid (b ≤ 64000 ∧ a % b ≤ 64000 ∧ Nat.gcd b (a % b) = Nat.gcd x y) := Lib.hid ⟨hb2, by omega, by rw [gcd_step a b hb]; exact HI.out.2.2⟩
      clear HI hb
      go_wp2
      go_quiet (fail)
      have e2 : ((a : Int) % (b : Int)) = ((a % b : Nat) : Int) := by simp
      rw [e2]
      clear e2 t1
      generalize a % b = c at *
      go_roundw
      case rel => exact ⟨_, _, _, _, _, _, _, _, ⟨b, c, rfl, rfl, HI2, q + nq, by simp⟩, rfl⟩
      case measure => simp [intOf]; omega
end Go.Proofs.YtfbgabcdeecpoaaDoor
/- Layer 24: slices of fractions; the posteriors at all worlds by the program. -/
namespace Go.Proofs.YtfbgabcdeecpoaaDoor
open Go.RowKit Go.Proofs.Ws
set_option maxRecDepth 100000
/-- the cells of a list of fractions -/
def frs (l : List (Nat × Nat)) : List Value := l.flatMap (fun q => [Value.int .i64 (q.1 : Int), Value.int .i64 (q.2 : Int)])
theorem frs_length (l : List (Nat × Nat)) : (frs l).length = 2 * l.length := by
  unfold frs
  induction l with
  | nil => rfl
  | cons q l ih => rw [List.flatMap_cons, List.length_append, ih, List.length_cons]; simp; omega
theorem frs_append (a b : List (Nat × Nat)) : frs (a ++ b) = frs a ++ frs b := by unfold frs; rw [List.flatMap_append]
theorem frs_at (l : List (Nat × Nat)) (k : Nat) (h : k < l.length) : (frs l)[2 * k]? = some (.int .i64 ((l.getD k (0, 0)).1 : Int)) ∧ (frs l)[2 * k + 1]? = some (.int .i64 ((l.getD k (0, 0)).2 : Int)) := by
  induction l generalizing k with
  | nil => simp at h
  | cons q l ih =>
    have e : frs (q :: l) = .int .i64 (q.1 : Int) :: .int .i64 (q.2 : Int) :: frs l := rfl
    rw [e]
    cases k with
    | zero => exact ⟨rfl, rfl⟩
    | succ k =>
      have h2 := ih k (by simpa using h)
      rw [show 2 * (k + 1) = 2 * k + 1 + 1 by omega, List.getElem?_cons_succ, List.getElem?_cons_succ, List.getElem?_cons_succ, List.getElem?_cons_succ, List.getD_cons_succ]
      exact h2
theorem frs_set (l : List (Nat × Nat)) (k : Nat) (q : Nat × Nat) : ((frs l).set (2 * k) (.int .i64 (q.1 : Int))).set (2 * k + 1) (.int .i64 (q.2 : Int)) = frs (l.set k q) := by
  induction l generalizing k with
  | nil => simp [frs]
  | cons p l ih =>
    have e : ∀ p l, frs (p :: l) = .int .i64 (p.1 : Int) :: .int .i64 (p.2 : Int) :: frs l := fun _ _ => rfl
    cases k with
    | zero => rw [List.set_cons_zero, e, e]; rfl
    | succ k =>
      rw [List.set_cons_succ, e, e, ← ih k, show 2 * (k + 1) = 2 * k + 1 + 1 by omega, List.set_cons_succ, List.set_cons_succ, List.set_cons_succ, List.set_cons_succ]
theorem add_spot (b o j : Nat) : (⟨b, o, none⟩ : Addr).add j = ⟨b, o + j, none⟩ := by
  unfold Addr.add
  split
  · subst_vars; rfl
  · rfl
theorem spot_none {w : World} {a : Addr} {v : Value} (h : w.cell? a = some v) : a.spot = none := by
  unfold World.cell? at h
  split at h
  · split at h
    · cases h
    · rename_i h2
      cases e : a.spot with
      | none => rfl
      | some x => rw [e] at h2; simp at h2
  · cases h
/-- a fraction in a slice -/
theorem Reads.fr_at {w : World} {B n : Nat} {A : Option Addr} {l : List (Nat × Nat)} (h : Reads w B 2 A n (frs l)) {k : Nat} (hk : k < n) :
    ∃ b o, A = some ⟨b, o, none⟩ ∧ b < B ∧ w.cell? ⟨b, o + k * 2, none⟩ = some (.int .i64 ((l.getD k (0, 0)).1 : Int)) ∧ w.cell? ⟨b, o + k * 2 + 1, none⟩ = some (.int .i64 ((l.getD k (0, 0)).2 : Int)) := by
  have hl := h.1
  rw [frs_length] at hl
  obtain ⟨ad, hA, hb, hc⟩ := h.2 (by omega)
  have h2 := frs_at l k (by omega)
  rw [Nat.mul_comm] at h2
  have c0 := hc _ _ h2.1
  have c1 := hc _ _ h2.2
  have hsp := spot_none (hc _ _ (frs_at l 0 (by omega)).1)
  obtain ⟨b, o, sp⟩ := ad
  have hsp2 : sp = none := hsp
  subst hsp2
  rw [add_spot] at c0 c1
  exact ⟨b, o, hA, hb, c0, c1⟩
theorem Reads.fr_len {w : World} {B n : Nat} {A : Option Addr} {l : List (Nat × Nat)} (h : Reads w B 2 A n (frs l)) : l.length = n := by
  have hl := h.1
  rw [frs_length] at hl
  omega
/-- block g holds just these fractions -/
def HoldsF (w : World) (g : Nat) (l : List (Nat × Nat)) : Prop := w.heap[g]? = some (.cells (frs l).toArray 41 (0, 0))
theorem Tryd.infoFr : (Tryd.prog.info? 41).map (fun i => (i.zero, i.size, i.bytes)) = some (some (.agg #[.int .i64 0, .int .i64 0]), 2, 16) := by kernel_rfl
theorem made_frs (n : Nat) : madeCells (Value.agg #[.int .i64 0, .int .i64 0]).cells (n * 2) = (frs (List.replicate n (0, 0))).toArray := by
  have e : (Value.agg #[.int .i64 0, .int .i64 0]).cells = #[.int .i64 0, .int .i64 0] := rfl
  rw [e]
  apply Array.ext
  · rw [size_madeCells, List.size_toArray, frs_length, List.length_replicate]; omega
  · intro i h1 h2
    rw [size_madeCells] at h1
    have hf := frs_at (List.replicate n (0, 0)) (i / 2) (by rw [List.length_replicate]; omega)
    have hz : (List.replicate n ((0, 0) : Nat × Nat)).getD (i / 2) (0, 0) = (0, 0) := by
      rw [List.getD_eq_getElem?_getD, List.getElem?_replicate]; split <;> rfl
    rw [hz] at hf
    rw [List.size_toArray] at h2
    have hx : (frs (List.replicate n (0, 0)))[i]? = some (.int .i64 0) := by
      rcases Nat.mod_two_eq_zero_or_one i with h | h
      · rw [show i = 2 * (i / 2) by omega]; exact hf.1
      · rw [show i = 2 * (i / 2) + 1 by omega]; exact hf.2
    have hy := List.getElem?_eq_some_iff.1 hx
    simp only [List.getElem_toArray, hy.2]
    simp only [madeCells, Array.getElem_map, Array.getElem_range]
    rcases Nat.mod_two_eq_zero_or_one i with h | h
    · simp [h]
    · simp [h]
theorem makeFr (w : World) (n : Nat) (hn : n ≤ 1000000) : (Instr.makeSlice 44 (.int .i64 (n : Int)) (.int .i64 (n : Int))).run Tryd.prog w = .ok (.slice (some ⟨w.heap.size, 0, none⟩) n n) (w.alloc (.cells (frs (List.replicate n (0, 0))).toArray 41)) := by
  obtain ⟨i0, hi, hz0, hz1, hz2⟩ := info_parts Tryd.infoFr
  have h := run_make (P := Tryd.prog) w 44 41 i0 (.agg #[.int .i64 0, .int .i64 0]) Tryd.underlying44 hi hz0 .i64 .i64 n n (by omega) (Int.le_refl _) (by rw [hz2]; omega) (by omega)
  rw [h, hz1]
  simp only [Int.toNat_natCast]
  rw [made_frs]
theorem HoldsF.cells {w : World} {g : Nat} {l : List (Nat × Nat)} (h : HoldsF w g l) {k : Nat} (hk : k < l.length) : w.cell? ⟨g, k * 2, none⟩ = some (.int .i64 ((l.getD k (0, 0)).1 : Int)) ∧ w.cell? ⟨g, k * 2 + 1, none⟩ = some (.int .i64 ((l.getD k (0, 0)).2 : Int)) := by
  have h2 := frs_at l k hk
  rw [Nat.mul_comm] at h2
  exact ⟨by rw [Lib.cell_of_heap h, List.getElem?_toArray]; exact h2.1, by rw [Lib.cell_of_heap h, List.getElem?_toArray]; exact h2.2⟩
theorem HoldsF.free {w : World} {g : Nat} {l : List (Nat × Nat)} (h : HoldsF w g l) (k : Nat) : w.frozen? ⟨g, k, none⟩ = false := Lib.frozen_of_heap h k
theorem HoldsF.put {w : World} {g : Nat} {l : List (Nat × Nat)} (h : HoldsF w g l) (k : Nat) (q : Nat × Nat) :
    HoldsF ((w.setCell ⟨g, k * 2, none⟩ (.int .i64 (q.1 : Int))).setCell ⟨g, k * 2 + 1, none⟩ (.int .i64 (q.2 : Int))) g (l.set k q) := by
  unfold HoldsF at h ⊢
  rw [← frs_set, Nat.mul_comm]
  simp [World.setCell, Array.getElem?_modify, h]
theorem HoldsF.lt {w : World} {g : Nat} {l : List (Nat × Nat)} (h : HoldsF w g l) : g < w.heap.size := (Array.getElem?_eq_some_iff.1 h).1
theorem HoldsF.below {w w' : World} {B g : Nat} {l : List (Nat × Nat)} (h : HoldsF w g l) (hb : Below B w w') (hg : g < B) : HoldsF w' g l := (hb.block g hg).trans h
theorem HoldsF.made (w : World) (l : List (Nat × Nat)) : HoldsF (w.alloc (.cells (frs l).toArray 41)) w.heap.size l := heap_alloc_new w _
theorem HoldsF.reads {w : World} {g : Nat} {l : List (Nat × Nat)} (h : HoldsF w g l) : Reads w w.heap.size 2 (some ⟨g, 0, none⟩) l.length (frs l) := by
  refine ⟨by rw [frs_length]; omega, fun _ => ⟨_, rfl, h.lt, fun j u hj => ?_⟩⟩
  rw [addr0, Lib.cell_of_heap h, List.getElem?_toArray]
  exact hj
theorem frs_i64 {l : List (Nat × Nat)} {u : Value} (h : u ∈ frs l) : ∃ z, u = .int .i64 z := by
  unfold frs at h
  obtain ⟨q, _, h2⟩ := List.mem_flatMap.1 h
  simp at h2
  rcases h2 with h2 | h2
  · exact ⟨_, h2⟩
  · exact ⟨_, h2⟩
theorem lt_of_cellP {W : World} {a : Addr} {v : Value} (hv : W.cell? a = some v) : a.block < W.heap.size := by
  rcases Nat.lt_or_ge a.block W.heap.size with h' | h'
  · exact h'
  · simp [World.cell?, Array.getElem?_eq_none h'] at hv
theorem HoldsF.not {w : World} {g : Nat} {l : List (Nat × Nat)} (h : HoldsF w g l) {a : Addr} {x : Int} (hc : w.cell? a = some (.int .u64 x)) : a.block ≠ g := by
  intro e
  unfold HoldsF at h
  simp only [World.cell?, e, h] at hc
  split at hc
  · cases hc
  · rw [List.getElem?_toArray] at hc
    obtain ⟨z, hz⟩ := frs_i64 (List.mem_of_getElem? hc)
    cases hz
theorem Reads.onlyF {w w' : World} {B g n : Nat} {A : Option Addr} {r : List Nat} {l : List (Nat × Nat)} (h : Reads w B 1 A n (us r)) (hF : HoldsF w g l) (ho : OnlyB g w w') : Reads w' B 1 A n (us r) := by
  refine ⟨h.1, fun h0 => ?_⟩
  obtain ⟨ad, hA, hb, hc⟩ := h.2 h0
  refine ⟨ad, hA, hb, fun j u hj => ?_⟩
  have h2 := hc j u hj
  have hu : ∃ x, u = .int .u64 x := by
    unfold us at hj
    rw [List.getElem?_map] at hj
    obtain ⟨k, _, rfl⟩ := Option.map_eq_some_iff.1 hj
    exact ⟨_, rfl⟩
  obtain ⟨x, rfl⟩ := hu
  rw [ho.cell (lt_of_cellP h2) (hF.not h2)]
  exact h2
/-- what posteriors returns -/
def GivesF (L : List (Nat × Nat)) (n : Nat) (w : World) (e : Ending) (w' : World) : Prop :=
  ∃ A c, e = .returned (.slice A n c) ∧ Reads w' w'.heap.size 2 A n (frs L) ∧ Below w.heap.size w w'
theorem blk_rel {l : List Int} (h : partErr l = 0) {i : Nat} (hi : i < l.length) : blkV l (i : Int) = (relL l).getD i 0 := by
  unfold blkV
  rw [if_pos ⟨h, by omega, by omega⟩, relL_getD l i hi]
  rfl
theorem blkV_lt {p : Pri} (h : OkP p) {a : Nat} (ha : a < p.cells.length) (w : Int) : blkV (p.cells.getD a []) w < 2 ^ p.wt.length := by
  have hc := h.can ha
  refine lt_of_sub fun i hi => ?_
  unfold blkV at hi
  split at hi
  · rw [cls_bit] at hi
    rw [← hc.len]; exact hi.1
  · simp at hi
theorem and_lt {a b n : Nat} (h : a < 2 ^ n) : a &&& b < 2 ^ n := Nat.lt_of_le_of_lt Nat.and_le_left h
end Go.Proofs.YtfbgabcdeecpoaaDoor
