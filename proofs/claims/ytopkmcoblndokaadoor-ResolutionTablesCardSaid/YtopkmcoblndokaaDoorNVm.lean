/- Layer 9: a canonical list at 64 valuations. -/
import Derived.Test.YtopkmcoblndokaaDoorNVa
import Derived.Test.YtopkmcoblndokaaDoorNVg
import Derived.Test.YtopkmcoblndokaaDoorNVl
import Derived.Laws.BitsAllLaws
namespace Go.Proofs.YtopkmcoblndokaaDoor
open Go.RowKit Go.Proofs.Ws Go.Maps
set_option maxRecDepth 100000
theorem nB_bits {x : Nat} (hx : x < 18446744073709551616) : bits .xor .u64 IntKind.u64.max (x : Int) = ((w64 ^^^ x : Nat) : Int) := by
  have h := u64_xor_nat w64 x (by unfold w64; omega) hx
  rw [← h]
  rfl
theorem w64_lt : w64 < 18446744073709551616 := by unfold w64; omega
theorem xor_lt {x y : Nat} (hx : x < 18446744073709551616) (hy : y < 18446744073709551616) : x ^^^ y < 18446744073709551616 := Nat.xor_lt_two_pow (n := 64) hx hy
theorem and_lt {x y : Nat} (hx : x < 18446744073709551616) : x &&& y < 18446744073709551616 := Nat.lt_of_le_of_lt Nat.and_le_left hx
theorem or_lt {x y : Nat} (hx : x < 18446744073709551616) (hy : y < 18446744073709551616) : x ||| y < 18446744073709551616 := Nat.or_lt_two_pow (n := 64) hx hy
theorem wNode_lt {op : Int} {x y g : Nat} (hx : x < 18446744073709551616) (hy : y < 18446744073709551616) (hg : g < 18446744073709551616) : wNode op x y g < 18446744073709551616 := by
  unfold wNode
  have hn : ∀ z, z < 18446744073709551616 → w64 ^^^ z < 18446744073709551616 := fun z hz => xor_lt w64_lt hz
  repeat' split
  · exact w64_lt
  · decide
  · exact hn _ hx
  · exact and_lt hx
  · exact or_lt hx hy
  · exact or_lt (hn _ hx) hy
  · exact hn _ (xor_lt hx hy)
  · exact hg
theorem wL_words (q : List Nd) {g : List Nat} (hg : Words g) : ∀ i, Words (wL q g i)
  | 0 => fun x hx => absurd hx (by simp [wL])
  | i + 1 => by
    have ih := wL_words q hg i
    intro x hx
    have hx : x ∈ wL q g i ++ [wNode (q.getD i nd0).op ((wL q g i).getD (q.getD i nd0).x.toNat 0) ((wL q g i).getD (q.getD i nd0).y.toNat 0) (g.getD i 0)] := hx
    rcases List.mem_append.1 hx with h | h
    · exact ih x h
    · rw [List.mem_singleton.1 h]
      exact wNode_lt (words_getD ih _) (words_getD ih _) (words_getD hg _)
/-- the words made so far, and zeros -/
def wM (q : List Nd) (g : List Nat) (n j : Nat) : List Nat := wL q g j ++ List.replicate (n - j) 0
theorem wM_at (q : List Nd) (g : List Nat) (n j k : Nat) : (wM q g n j).getD k 0 = (wL q g j).getD k 0 := by
  unfold wM
  rw [List.getD_eq_getElem?_getD, List.getD_eq_getElem?_getD]
  by_cases h : k < (wL q g j).length
  · rw [List.getElem?_append_left h]
  · rw [List.getElem?_append_right (by omega), List.getElem?_eq_none (l := wL q g j) (by omega), List.getElem?_replicate]
    split <;> rfl
theorem wM_len (q : List Nd) (g : List Nat) {n j : Nat} (h : j ≤ n) : (wM q g n j).length = n := by
  unfold wM
  rw [List.length_append, wL_len, List.length_replicate]
  omega
theorem wM_set (q : List Nd) (g : List Nat) {n j : Nat} (h : j < n) {v : Nat} (hv : v = wNode (q.getD j nd0).op ((wL q g j).getD (q.getD j nd0).x.toNat 0) ((wL q g j).getD (q.getD j nd0).y.toNat 0) (g.getD j 0)) : (wM q g n j).set j v = wM q g n (j + 1) := by
  unfold wM
  have e : n - j = (n - (j + 1)) + 1 := by omega
  rw [e, List.replicate_succ]
  have hl := wL_len q g j
  show (wL q g j ++ 0 :: List.replicate (n - (j + 1)) 0).set j v = (wL q g j ++ [_]) ++ List.replicate (n - (j + 1)) 0
  rw [← hv]
  rw [List.set_append_right _ _ (by omega), hl, Nat.sub_self]
  simp
set_option maxHeartbeats 16000000 in
theorem evaluate_any (q : List Nd) (g : List Nat) (A B : Option Addr) (n c cg : Nat) (w : World) (hR : Reads w w.heap.size 6 A n (nds q)) (hG : Reads w w.heap.size 1 B n (us g)) (hq : opsL q) (hn0 : 0 < n) (hn : n ≤ 200) (hg : Words g) :
    Calls Tryd.prog 22 #[.slice A n c, .slice B n cg] w fun e w' => e = .returned (.int .u64 ((wL q g n).getD (n - 1) 0 : Nat)) ∧ Below w.heap.size w w' := by
  have hl := hR.nd_len
  have HR := Lib.hid hR
  have HG := Lib.hid hG
  have HW := Lib.hid (fun j => wL_words q hg j)
  have HWG := Lib.hid hg
  have HQ := Lib.hid hq
  have hmk := makeU w n (by omega)
  have HU0 := Lib.hid (HoldsU.made w (List.replicate n 0))
  have HB0 : Hid (Below w.heap.size w (w.alloc (.cells (us (List.replicate n 0)).toArray 27))) := Lib.hid ((Below.refl _ w).alloc (Nat.le_refl _) _)
  have HW0 : Hid (List.replicate n 0 = wM q g n 0) := Lib.hid rfl
  clear hR hG hq hg
  go_enter Tryd.func22, Tryd.ntmps22
  go_wp2
  generalize w.alloc (.cells (us (List.replicate n 0)).toArray 27) = w1 at *
  rw [HW0.out] at HU0
  have hs1 := HB0.out.size
  have HS1 : Hid (w.heap.size < w1.heap.size) := Lib.hid HU0.out.lt
  go_loopw [6, 7, 8, 9, 15] (fun _ _ _ _ i wr => ∃ j : Nat, j ≤ n ∧ i = .int .i64 j ∧ Hid (HoldsU wr w.heap.size (wM q g n j)) ∧ Hid (Below w.heap.size w wr)) (fun _ _ _ _ i _ => n - (intOf i).toNat)
  case atStart => exact ⟨0, Nat.zero_le _, rfl, HU0, HB0⟩
  case round =>
    obtain ⟨j, hj, rfl, HU, HBI⟩ := hrel
    have hsz := HBI.out.size
    have hlt := HU.out.lt
    by_cases hlj : j < n
    · obtain ⟨aq, rfl, hbq, m0, m1, m2, m3, m4, m5⟩ := (HR.out.below HBI.out).nd_at hlj
      obtain ⟨ag, rfl, hbg, hcg⟩ := (HG.out.below HBI.out).word_k hlj
      have l1 := add_cell m1
      have l2 := add_cell m2
      have l3 := add_cell m3
      have l4 := add_cell m4
      have l5 := add_cell m5
      have hop := HQ.out j (by omega)
      have hxl : 0 ≤ (q.getD j nd0).x ∧ (q.getD j nd0).x.toNat < n := by
        by_cases hu : usesX (q.getD j nd0).op = true
        · have := opsOk_x hop hu; omega
        · have : (q.getD j nd0).x = 0 := by
            have h1 := hop.1
            rw [if_neg hu] at h1
            exact h1
          rw [this]; exact ⟨by decide, by simpa using hn0⟩
      have hyl : 0 ≤ (q.getD j nd0).y ∧ (q.getD j nd0).y.toNat < n := by
        by_cases hu : usesY (q.getD j nd0).op = true
        · have := opsOk_y hop hu; omega
        · have : (q.getD j nd0).y = 0 := by
            have h1 := hop.2
            rw [if_neg hu] at h1
            exact h1
          rw [this]; exact ⟨by decide, by simpa using hn0⟩
      have HSET := Lib.hid (fun (v : Nat) h => wM_set q g hlj (v := v) h)
      have hx64 := words_getD (HW.out j) (q.getD j nd0).x.toNat
      have hy64 := words_getD (HW.out j) (q.getD j nd0).y.toNat
      have hg64 := words_getD HWG.out j
      have hcx := HU.out.cell (q.getD j nd0).x.toNat (by rw [wM_len q g hj]; exact hxl.2)
      have hcy := HU.out.cell (q.getD j nd0).y.toNat (by rw [wM_len q g hj]; exact hyl.2)
      have hcj := HU.out.cell j (by rw [wM_len q g hj]; exact hlj)
      have hfj := HU.out.free j
      rw [wM_at] at hcx hcy hcj
      obtain ⟨kx, hkx⟩ : ∃ k : Nat, (q.getD j nd0).x = (k : Int) := ⟨(q.getD j nd0).x.toNat, by omega⟩
      obtain ⟨ky, hky⟩ : ∃ k : Nat, (q.getD j nd0).y = (k : Int) := ⟨(q.getD j nd0).y.toNat, by omega⟩
      rw [hkx] at m4 l4
      rw [hky] at m5 l5
      rw [hkx, Int.toNat_natCast] at HSET hx64 hcx hxl
      rw [hky, Int.toNat_natCast] at HSET hy64 hcy hyl
      have hxn := hxl.2
      have hyn := hyl.2
      generalize (wL q g j).getD kx 0 = zx at *
      generalize (wL q g j).getD ky 0 = zy at *
      generalize (wL q g j).getD j 0 = zj at *
      generalize g.getD j 0 = zg at *
      generalize hnext : wM q g n (j + 1) = mnext at *
      have HNX := Lib.hid hnext
      clear hnext hxl hyl hop hkx hky
      generalize wM q g n j = mj at *
      generalize q.getD j nd0 = y at *
      obtain ⟨op, i, e, gg, yx, yyy⟩ := y
      dsimp only at m0 m1 m2 m3 m4 m5 l1 l2 l3 l4 l5 HSET
      by_cases h1 : op = 1
      · subst h1
        as_aux_lemma =>
          have HS2 := Lib.hid (HSET.out (w64) rfl)
          have HBA : Hid (Below w.heap.size w (wr.alloc (.cells #[.int .i64 1, .int .i64 i, .int .i64 e, .int .i64 gg, .int .i64 (kx : Int), .int .i64 (ky : Int)] 55))) := Lib.hid (HBI.out.alloc hsz _)
          have HUA := Lib.hid (HU.out.alloc (.cells #[.int .i64 1, .int .i64 i, .int .i64 e, .int .i64 gg, .int .i64 (kx : Int), .int .i64 (ky : Int)] 55))
          go_wp2_with fail
          go_quiet (fail)
          go_wp2
          go_roundw
          case rel => exact ⟨j + 1, by omega, by go_num, Lib.hid (by rw [HNX.out, ← HS2.out]; first | exact HoldsU.put (show HoldsU _ _ _ from HUA.out) j _ | (have hq9 := HoldsU.put (show HoldsU _ _ _ from HUA.out) j w64; rw [show ((w64 : Nat) : Int) = 18446744073709551615 from by decide] at hq9; exact hq9)), Lib.hid ((below_drewN HBA.out _).setCell (Nat.le_refl _) _)⟩
          case measure => first | (simp [intOf]; done) | (simp [intOf]; omega)
      by_cases h2 : op = 2
      · subst h2
        as_aux_lemma =>
          have HS2 := Lib.hid (HSET.out (0) rfl)
          have HBA : Hid (Below w.heap.size w (wr.alloc (.cells #[.int .i64 2, .int .i64 i, .int .i64 e, .int .i64 gg, .int .i64 (kx : Int), .int .i64 (ky : Int)] 55))) := Lib.hid (HBI.out.alloc hsz _)
          have HUA := Lib.hid (HU.out.alloc (.cells #[.int .i64 2, .int .i64 i, .int .i64 e, .int .i64 gg, .int .i64 (kx : Int), .int .i64 (ky : Int)] 55))
          go_wp2_with fail
          go_quiet (fail)
          go_wp2
          go_roundw
          case rel => exact ⟨j + 1, by omega, by go_num, Lib.hid (by rw [HNX.out, ← HS2.out]; first | exact HoldsU.put (show HoldsU _ _ _ from HUA.out) j _ | (have hq9 := HoldsU.put (show HoldsU _ _ _ from HUA.out) j w64; rw [show ((w64 : Nat) : Int) = 18446744073709551615 from by decide] at hq9; exact hq9)), Lib.hid ((below_drewN HBA.out _).setCell (Nat.le_refl _) _)⟩
          case measure => first | (simp [intOf]; done) | (simp [intOf]; omega)
      by_cases h4 : op = 4
      · subst h4
        as_aux_lemma =>
          have HS2 := Lib.hid (HSET.out (w64 ^^^ zx) rfl)
          have HBA : Hid (Below w.heap.size w (wr.alloc (.cells #[.int .i64 4, .int .i64 i, .int .i64 e, .int .i64 gg, .int .i64 (kx : Int), .int .i64 (ky : Int)] 55))) := Lib.hid (HBI.out.alloc hsz _)
          have HUA := Lib.hid (HU.out.alloc (.cells #[.int .i64 4, .int .i64 i, .int .i64 e, .int .i64 gg, .int .i64 (kx : Int), .int .i64 (ky : Int)] 55))
          have hfa := nB_bits hx64
          have hfc : bits .xor .u64 (if IntKind.u64.signed = true then -1 else IntKind.u64.max) (zx : Int) = ((w64 ^^^ zx : Nat) : Int) := nB_bits hx64
          go_wp2_with fail
          go_quiet (fail)
          go_wp2
          go_roundw
          case rel => exact ⟨j + 1, by omega, by go_num, Lib.hid (by rw [HNX.out, ← HS2.out]; first | exact HoldsU.put (show HoldsU _ _ _ from HUA.out) j _ | (have hq9 := HoldsU.put (show HoldsU _ _ _ from HUA.out) j w64; rw [show ((w64 : Nat) : Int) = 18446744073709551615 from by decide] at hq9; exact hq9)), Lib.hid ((below_drewN HBA.out _).setCell (Nat.le_refl _) _)⟩
          case measure => first | (simp [intOf]; done) | (simp [intOf]; omega)
      by_cases h5 : op = 5
      · subst h5
        as_aux_lemma =>
          have HS2 := Lib.hid (HSET.out (zx &&& zy) rfl)
          have HBA : Hid (Below w.heap.size w (wr.alloc (.cells #[.int .i64 5, .int .i64 i, .int .i64 e, .int .i64 gg, .int .i64 (kx : Int), .int .i64 (ky : Int)] 55))) := Lib.hid (HBI.out.alloc hsz _)
          have HUA := Lib.hid (HU.out.alloc (.cells #[.int .i64 5, .int .i64 i, .int .i64 e, .int .i64 gg, .int .i64 (kx : Int), .int .i64 (ky : Int)] 55))
          have hfa : bits .and .u64 (zx : Int) (zy : Int) = ((zx &&& zy : Nat) : Int) := u64_and_nat zx zy hx64 hy64
          go_wp2_with fail
          go_quiet (fail)
          go_wp2
          go_roundw
          case rel => exact ⟨j + 1, by omega, by go_num, Lib.hid (by rw [HNX.out, ← HS2.out]; first | exact HoldsU.put (show HoldsU _ _ _ from HUA.out) j _ | (have hq9 := HoldsU.put (show HoldsU _ _ _ from HUA.out) j w64; rw [show ((w64 : Nat) : Int) = 18446744073709551615 from by decide] at hq9; exact hq9)), Lib.hid ((below_drewN HBA.out _).setCell (Nat.le_refl _) _)⟩
          case measure => first | (simp [intOf]; done) | (simp [intOf]; omega)
      by_cases h6 : op = 6
      · subst h6
        as_aux_lemma =>
          have HS2 := Lib.hid (HSET.out (zx ||| zy) rfl)
          have HBA : Hid (Below w.heap.size w (wr.alloc (.cells #[.int .i64 6, .int .i64 i, .int .i64 e, .int .i64 gg, .int .i64 (kx : Int), .int .i64 (ky : Int)] 55))) := Lib.hid (HBI.out.alloc hsz _)
          have HUA := Lib.hid (HU.out.alloc (.cells #[.int .i64 6, .int .i64 i, .int .i64 e, .int .i64 gg, .int .i64 (kx : Int), .int .i64 (ky : Int)] 55))
          have hfa : bits .or .u64 (zx : Int) (zy : Int) = ((zx ||| zy : Nat) : Int) := u64_or_nat zx zy hx64 hy64
          go_wp2_with fail
          go_quiet (fail)
          go_wp2
          go_roundw
          case rel => exact ⟨j + 1, by omega, by go_num, Lib.hid (by rw [HNX.out, ← HS2.out]; first | exact HoldsU.put (show HoldsU _ _ _ from HUA.out) j _ | (have hq9 := HoldsU.put (show HoldsU _ _ _ from HUA.out) j w64; rw [show ((w64 : Nat) : Int) = 18446744073709551615 from by decide] at hq9; exact hq9)), Lib.hid ((below_drewN HBA.out _).setCell (Nat.le_refl _) _)⟩
          case measure => first | (simp [intOf]; done) | (simp [intOf]; omega)
      by_cases h7 : op = 7
      · subst h7
        as_aux_lemma =>
          have HS2 := Lib.hid (HSET.out ((w64 ^^^ zx) ||| zy) rfl)
          have HBA : Hid (Below w.heap.size w (wr.alloc (.cells #[.int .i64 7, .int .i64 i, .int .i64 e, .int .i64 gg, .int .i64 (kx : Int), .int .i64 (ky : Int)] 55))) := Lib.hid (HBI.out.alloc hsz _)
          have HUA := Lib.hid (HU.out.alloc (.cells #[.int .i64 7, .int .i64 i, .int .i64 e, .int .i64 gg, .int .i64 (kx : Int), .int .i64 (ky : Int)] 55))
          have hfa := nB_bits hx64
          have hfc : bits .xor .u64 (if IntKind.u64.signed = true then -1 else IntKind.u64.max) (zx : Int) = ((w64 ^^^ zx : Nat) : Int) := nB_bits hx64
          have hfb : bits .or .u64 ((w64 ^^^ zx : Nat) : Int) (zy : Int) = (((w64 ^^^ zx) ||| zy : Nat) : Int) := u64_or_nat _ _ (xor_lt w64_lt hx64) hy64
          go_wp2_with fail
          go_quiet (fail)
          go_wp2
          go_roundw
          case rel => exact ⟨j + 1, by omega, by go_num, Lib.hid (by rw [HNX.out, ← HS2.out]; first | exact HoldsU.put (show HoldsU _ _ _ from HUA.out) j _ | (have hq9 := HoldsU.put (show HoldsU _ _ _ from HUA.out) j w64; rw [show ((w64 : Nat) : Int) = 18446744073709551615 from by decide] at hq9; exact hq9)), Lib.hid ((below_drewN HBA.out _).setCell (Nat.le_refl _) _)⟩
          case measure => first | (simp [intOf]; done) | (simp [intOf]; omega)
      by_cases h8 : op = 8
      · subst h8
        as_aux_lemma =>
          have HS2 := Lib.hid (HSET.out (w64 ^^^ (zx ^^^ zy)) rfl)
          have HBA : Hid (Below w.heap.size w (wr.alloc (.cells #[.int .i64 8, .int .i64 i, .int .i64 e, .int .i64 gg, .int .i64 (kx : Int), .int .i64 (ky : Int)] 55))) := Lib.hid (HBI.out.alloc hsz _)
          have HUA := Lib.hid (HU.out.alloc (.cells #[.int .i64 8, .int .i64 i, .int .i64 e, .int .i64 gg, .int .i64 (kx : Int), .int .i64 (ky : Int)] 55))
          have hfa : bits .xor .u64 (zx : Int) (zy : Int) = ((zx ^^^ zy : Nat) : Int) := u64_xor_nat zx zy hx64 hy64
          have hfb := nB_bits (xor_lt hx64 hy64)
          have hfc : bits .xor .u64 (if IntKind.u64.signed = true then -1 else IntKind.u64.max) ((zx ^^^ zy : Nat) : Int) = ((w64 ^^^ (zx ^^^ zy) : Nat) : Int) := nB_bits (xor_lt hx64 hy64)
          go_wp2_with fail
          go_quiet (fail)
          go_wp2
          go_roundw
          case rel => exact ⟨j + 1, by omega, by go_num, Lib.hid (by rw [HNX.out, ← HS2.out]; first | exact HoldsU.put (show HoldsU _ _ _ from HUA.out) j _ | (have hq9 := HoldsU.put (show HoldsU _ _ _ from HUA.out) j w64; rw [show ((w64 : Nat) : Int) = 18446744073709551615 from by decide] at hq9; exact hq9)), Lib.hid ((below_drewN HBA.out _).setCell (Nat.le_refl _) _)⟩
          case measure => first | (simp [intOf]; done) | (simp [intOf]; omega)
      have e1 : (op == 1) = false := by simpa using h1
      have e2 : (op == 2) = false := by simpa using h2
      have e4 : (op == 4) = false := by simpa using h4
      have e5 : (op == 5) = false := by simpa using h5
      have e6 : (op == 6) = false := by simpa using h6
      have e7 : (op == 7) = false := by simpa using h7
      have e8 : (op == 8) = false := by simpa using h8
      have HS2 := Lib.hid (HSET.out (zg) (by unfold wNode; simp [h1, h2, h4, h5, h6, h7, h8]))
      have HBA : Hid (Below w.heap.size w (wr.alloc (.cells #[.int .i64 op, .int .i64 i, .int .i64 e, .int .i64 gg, .int .i64 (kx : Int), .int .i64 (ky : Int)] 55))) := Lib.hid (HBI.out.alloc hsz _)
      have HUA := Lib.hid (HU.out.alloc (.cells #[.int .i64 op, .int .i64 i, .int .i64 e, .int .i64 gg, .int .i64 (kx : Int), .int .i64 (ky : Int)] 55))
      clear h1 h2 h4 h5 h6 h7 h8
      have hglt : (ag.add j).block < wr.heap.size := by
        rcases Nat.lt_or_ge (ag.add j).block wr.heap.size with h' | h'
        · exact h'
        · simp [World.cell?, Array.getElem?_eq_none h'] at hcg
      have HCG := Lib.hid ((World.cell?_alloc_lt wr (.cells #[.int .i64 op, .int .i64 i, .int .i64 e, .int .i64 gg, .int .i64 (kx : Int), .int .i64 (ky : Int)] 55) (ag.add j) hglt).trans hcg)
      clear hglt
      go_wp2_with fail
      go_quiet (fail)
      have hcg3 : ((wr.alloc (.cells #[.int .i64 op, .int .i64 i, .int .i64 e, .int .i64 gg, .int .i64 (kx : Int), .int .i64 (ky : Int)] 55)).drewN nq).cell? (ag.add j) = _ := HCG.out
      go_wp2
      go_roundw
      case rel => exact ⟨j + 1, by omega, by go_num, Lib.hid (by rw [HNX.out, ← HS2.out]; first | exact HoldsU.put (show HoldsU _ _ _ from HUA.out) j _ | (have hq9 := HoldsU.put (show HoldsU _ _ _ from HUA.out) j w64; rw [show ((w64 : Nat) : Int) = 18446744073709551615 from by decide] at hq9; exact hq9)), Lib.hid ((below_drewN HBA.out _).setCell (Nat.le_refl _) _)⟩
      case measure => first | (simp [intOf]; done) | (simp [intOf]; omega)
    · have : j = n := by omega
      subst this
      obtain ⟨m, rfl⟩ : ∃ m, j = m + 1 := ⟨j - 1, by omega⟩
      have hc := HU.out.cell m (by rw [wM_len q g (Nat.le_refl _)]; omega)
      rw [wM_at] at hc
      have hw1 : wrap64 (((m + 1 : Nat) : Int) - 1) = (m : Int) := by unfold wrap64; omega
      have hw2 : IntKind.i64.wrap (((m + 1 : Nat) : Int) - 1) = (m : Int) := by rw [IntKind.wrap_i64]; omega
      have hw3 : ((m + 1 : Nat) : Int) - 1 = (m : Int) := by omega
      have hw4 : wrap64 (m : Int) = (m : Int) := by unfold wrap64; omega
      go_wp2
      go_ret
      refine ⟨?_, HBI.out⟩
      simp [List.getD_eq_getElem?_getD]
end Go.Proofs.YtopkmcoblndokaaDoor
