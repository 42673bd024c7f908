/- Layer 4: the usual names: numbers out of range, by the program; the first strings of a list, by the reference. -/
import Derived.Test.YtichhbnpdhfimaaDoorSq
namespace Go.Proofs.YtichhbnpdhfimaaDoor
open Go.RowKit Go.Proofs.Ws
/-- what comes back where a number is out of range -/
theorem zero_sig {w : World} {B : Nat} : SigR w B (.agg #[.slice none 0 0, .slice none 0 0, .slice none 0 0]) [] [] [] :=
  ⟨none, 0, 0, none, 0, 0, none, 0, 0, rfl, ⟨Reads.none_, fun _ => ⟨rfl, rfl⟩, by omega, by simp, Nat.le_refl _, by omega⟩, ⟨Reads.none_, fun _ => ⟨rfl, rfl⟩, by omega, by simp, Nat.le_refl _, by omega⟩, ⟨Reads.none_, fun _ => ⟨rfl, rfl⟩, by omega, by simp, Nat.le_refl _, by omega⟩⟩
theorem out_or (x l : Int) (h : ¬ (0 ≤ x ∧ x ≤ l)) : (decide (x < 0) || decide (l < x)) = true := by simp; omega
theorem out_not (x l : Int) (h : 0 ≤ x ∧ x ≤ l) : (decide (x < 0) || decide (l < x)) = false := by simp; omega
set_option maxRecDepth 100000 in
set_option maxHeartbeats 2000000 in
theorem pDefault_bad (x0 x1 x2 : Int) (w : World) (h : ¬ ((0 ≤ x0 ∧ x0 ≤ 4) ∧ (0 ≤ x1 ∧ x1 ≤ 8) ∧ 0 ≤ x2 ∧ x2 ≤ 8)) :
    Calls Tryd.prog 33 #[.int .i64 x0, .int .i64 x1, .int .i64 x2] w fun e w' => e = .returned (.tuple #[.agg #[.slice none 0 0, .slice none 0 0, .slice none 0 0], .int .i64 2]) ∧ Below w.heap.size w w' := by
  have HZ := Lib.hid (heap_alloc_new w (.cells #[.slice none 0 0, .slice none 0 0, .slice none 0 0] 39))
  have HZB : Hid (Below w.heap.size w (w.alloc (.cells #[.slice none 0 0, .slice none 0 0, .slice none 0 0] 39))) := Lib.hid ((Below.refl _ w).alloc (Nat.le_refl _) _)
  by_cases h0 : 0 ≤ x0 ∧ x0 ≤ 4
  · have HO0 := Lib.hid (fun W => out_not x0 4 h0 ▸ pOutside_any x0 4 W)
    by_cases h1 : 0 ≤ x1 ∧ x1 ≤ 8
    · have HO1 := Lib.hid (fun W => out_not x1 8 h1 ▸ pOutside_any x1 8 W)
      have HO2 := Lib.hid (fun W => out_or x2 8 (fun e => h ⟨h0, h1, e⟩) ▸ pOutside_any x2 8 W)
      clear h h0 h1
      go_enter Tryd.func33, Tryd.ntmps33
      go_wp2_with fail
      refine (HO0.out _).mono ?_
      rintro e w1 ⟨rfl, rfl⟩
      go_wp2_with fail
      refine (HO1.out _).mono ?_
      rintro e w1 ⟨rfl, rfl⟩
      go_wp2_with fail
      refine (HO2.out _).mono ?_
      rintro e w1 ⟨rfl, rfl⟩
      go_wp2
      (try simp only [Exit.inBlock, Exit.then])
      refine bodyPost_ret (ret_cell_row rfl _ _ w.heap.size _ _ _ _ rfl HZ.out Tryd.underlying39 rfl (by kernel_rfl)) rfl ⟨rfl, HZB.out⟩
    · have HO1 := Lib.hid (fun W => out_or x1 8 h1 ▸ pOutside_any x1 8 W)
      clear h h0 h1
      go_enter Tryd.func33, Tryd.ntmps33
      go_wp2_with fail
      refine (HO0.out _).mono ?_
      rintro e w1 ⟨rfl, rfl⟩
      go_wp2_with fail
      refine (HO1.out _).mono ?_
      rintro e w1 ⟨rfl, rfl⟩
      go_wp2
      (try simp only [Exit.inBlock, Exit.then])
      refine bodyPost_ret (ret_cell_row rfl _ _ w.heap.size _ _ _ _ rfl HZ.out Tryd.underlying39 rfl (by kernel_rfl)) rfl ⟨rfl, HZB.out⟩
  · have HO0 := Lib.hid (fun W => out_or x0 4 h0 ▸ pOutside_any x0 4 W)
    clear h h0
    go_enter Tryd.func33, Tryd.ntmps33
    go_wp2_with fail
    refine (HO0.out _).mono ?_
    rintro e w1 ⟨rfl, rfl⟩
    go_wp2
    (try simp only [Exit.inBlock, Exit.then])
    refine bodyPost_ret (ret_cell_row rfl _ _ w.heap.size _ _ _ _ rfl HZ.out Tryd.underlying39 rfl (by kernel_rfl)) rfl ⟨rfl, HZB.out⟩
/-- the first strings of a list -/
theorem own_keep {W W' : World} {lo : Nat} {e : TypeId} {v : Value} {n : Nat} {xs : List Value} (h : W.ownsRow lo e 1 v n xs) (hk : ∀ g, lo ≤ g → g < W.heap.size → W'.heap[g]? = W.heap[g]?) : W'.ownsRow lo e 1 v n xs := by
  refine ⟨h.1, ?_⟩
  rcases h.2 with hn | ⟨g, cap, cur, hv, hb, hg, rest⟩
  · exact .inl hn
  · exact .inr ⟨g, cap, cur, hv, hb, (hk g hb (Array.getElem?_eq_some_iff.1 hg).1).trans hg, rest⟩
set_option maxRecDepth 100000 in
set_option maxHeartbeats 2000000 in
theorem pFirst_any (l : List ByteArray) (A : Option Addr) (n c m : Nat) (w : World) (hR : Reads w w.heap.size 1 A n (ss l)) (hm : m ≤ n) (hn : n ≤ 20) :
    Calls Tryd.prog 67 #[.slice A n c, .int .i64 m] w fun e w' => ∃ v, e = .returned v ∧ w'.ownsRow w.heap.size 9 1 v m (ss (l.take m)) ∧ Below w.heap.size w w' := by
  obtain ⟨i0, hi, hz0, hz1, hz2⟩ := info_parts Tryd.infoS
  have HR := Lib.hid hR
  have HLL := Lib.hid hR.str_len
  clear hR
  go_enter Tryd.func67, Tryd.ntmps67
  go_wp2
  go_loopw [5, 6] (fun v i wr => ∃ (k : Nat) (xs : List Value), k ≤ m ∧ i = .int .i64 k ∧ Hid (xs = ss (l.take k)) ∧ wr.ownsRow w.heap.size 9 1 v k xs ∧ Below w.heap.size w wr) (fun _ i _ => m - (intOf i).toNat)
  case atStart => exact ⟨0, [], Nat.zero_le _, rfl, Lib.hid rfl, World.ownsRow_nil _ _ _ _, Below.refl _ _⟩
  case round =>
    obtain ⟨k, xs, hk, rfl, HO, hown, hb⟩ := hrel
    have hsz := hb.size
    by_cases hlt : k < m
    · obtain ⟨ad, hA, hbb, hc0⟩ := HR.out.str_at (show k < n by omega)
      have hcx := (hb.cell (p := ad.add k) (by rw [block_of_add]; exact hbb)).trans hc0
      subst hA
      have HX : Hid (xs ++ [.string (l.getD k ByteArray.empty)] = ss (l.take (k + 1))) := Lib.hid (by
        have e : l.take (k + 1) = l.take k ++ [l.getD k ByteArray.empty] := by
          rw [List.take_add_one, List.getD_eq_getElem?_getD, List.getElem?_eq_getElem (by rw [HLL.out]; omega)]; rfl
        rw [e, ss_append, HO.out]
        rfl)
      generalize l.getD k ByteArray.empty = x at *
      clear hc0 hbb HO
      go_wp2_with (at_builtin; refine wpList_append_own _ rfl _ _ 37 rfl w.heap.size 9 i0 (.string ByteArray.empty) 1 16 Tryd.underlying37 hi hz0 hz1 hz2 rfl (by decide) _ _ _ rfl (hown.alloc _) ⟨wr.heap.size, 0, none⟩ 1 1 [.string x] rfl rfl ?c1 ?c2 ?c3 ?c4 ?c5 ?_)
      case c1 =>
        intro j u hj
        match j, hj with
        | 0, hj => simp at hj; subst hj; simp [Addr.add]
      case c2 => intro u hu; simp at hu; subst hu; rfl
      case c3 => unfold maxLen; omega
      case c4 => omega
      case c5 => simp; omega
      intro v' w3 hown' hgrow _
      have hb3 : Below w.heap.size w w3 := (hb.alloc hsz _).grown hgrow (by simp; omega) (fun j hj => ((hown.alloc (.cells #[.string x] 9)).lt j hj).1)
      clear hgrow hown hb
      go_wp2
      go_roundw
      case rel => exact ⟨k + 1, _, by omega, by go_num, HX, hown', hb3⟩
      case measure => simp [intOf]; omega
    · have hkn : m = k := by omega
      subst hkn
      have hown2 := hown
      rw [HO.out] at hown2
      have HF := Lib.hid hown2
      have HB := Lib.hid hb
      clear hown hown2 hb HO
      go_wp2
      go_ret
      exact ⟨_, rfl, HF.out, HB.out⟩
end Go.Proofs.YtichhbnpdhfimaaDoor
