/- Layer 5: appendShifted. -/
import Derived.Test.YtcbmncafmofcpaaMg
namespace Go.Proofs.Ytcbmncafmofcpaa
open Go.RowKit Go.Proofs.Ws Go.Maps
theorem int_block {W : World} {g : Nat} {cs : Array Value} {b n : Nat} {v : Value} {xs : List Value} (h : W.heap[g]? = some (.cells cs 3 (0, 0))) (ho : W.ownsRow b 44 6 v n xs) : v.ownBlock ≠ some g := by
  intro e
  obtain ⟨cur, h2⟩ := own_type ho e
  rw [h] at h2
  injection h2 with h2
  injection h2 with _ h3
  exact absurd h3 (by decide)
set_option maxRecDepth 100000 in
set_option maxHeartbeats 4000000 in
theorem pAppS_any (l f : List Nd) (A : Option Addr) (n c b0 : Nat) (v : Value) (w : World) (hf : opsL f) (hn : n ≤ 300) (hl3 : l.length ≤ 300) (hb0 : b0 ≤ w.heap.size) (hR : Reads w b0 6 A n (nds f)) (hown : w.ownsRow b0 44 6 v l.length (nds l)) :
    Calls Try.prog 108 #[v, .slice A n c] w fun e w' => ∃ v', e = .returned v' ∧ w'.ownsRow b0 44 6 v' (l ++ f.map (shiftN l.length)).length (nds (l ++ f.map (shiftN l.length))) ∧ Below b0 w w' := by
  obtain ⟨A0, c0, rfl⟩ := own_sl hown
  have hl := hR.nd_len
  have HLN := Lib.hid hl
  have HR := Lib.hid hR
  have HF := Lib.hid hf
  have HS0 : Hid ((w.alloc (.cells #[.int .i64 (l.length : Int)] 3)).heap[w.heap.size]? = some (.cells #[.int .i64 (l.length : Int)] 3 (0, 0))) := Lib.hid (heap_alloc_new w _)
  have HO0 : (w.alloc (.cells #[.int .i64 (l.length : Int)] 3)).ownsRow b0 44 6 (.slice A0 l.length c0) l.length (nds l) := own_keep1 hown (fun g hg => Below.heap_alloc w _ g (hown.lt g hg).2)
  have HB0 : Hid (Below b0 w (w.alloc (.cells #[.int .i64 (l.length : Int)] 3))) := Lib.hid ((Below.refl _ w).alloc hb0 _)
  have hs0 : w.heap.size < (w.alloc (.cells #[.int .i64 (l.length : Int)] 3)).heap.size := by simp
  clear hR hl hf hown
  go_enter Try.func108, Try.ntmps108
  go_wp2
  generalize w.alloc (.cells #[.int .i64 (l.length : Int)] 3) = w1 at *
  go_loopw [0, 7, 12] (fun u0 u7 i wr => ∃ (k : Nat), k ≤ n ∧ i = .int .i64 k ∧ Hid (wr.ownsRow b0 44 6 u0 (l ++ (f.take k).map (shiftN l.length)).length (nds (l ++ (f.take k).map (shiftN l.length)))) ∧ Hid (wr.heap[w.heap.size]? = some (.cells #[.int .i64 (l.length : Int)] 3 (0, 0))) ∧ Hid (Below b0 w wr)) (fun _ _ i _ => n - (intOf i).toNat)
  case atStart => exact ⟨0, Nat.zero_le _, rfl, Lib.hid (by simpa using HO0), HS0, HB0⟩
  case round =>
    obtain ⟨k, hk, rfl, HO, HS, HB⟩ := hrel
    by_cases hlt : k < n
    · obtain ⟨ad, rfl, hb, m0, m1, m2, m3, m4, m5⟩ := (HR.out.below HB.out).nd_at hlt
      have ho := HF.out k (by have := HLN.out; omega)
      obtain ⟨x, hx⟩ : ∃ x, f.getD k nd0 = x := ⟨_, rfl⟩
      rw [hx] at m0 m1 m2 m3 m4 m5 ho
      have l1 := add_cell m1
      have l2 := add_cell m2
      have l3 := add_cell m3
      have l4 := add_cell m4
      have l5 := add_cell m5
      have HT : Hid (l ++ (f.take (k + 1)).map (shiftN l.length) = (l ++ (f.take k).map (shiftN l.length)) ++ [shiftN l.length x]) := Lib.hid (by
        have hkf : k < f.length := by have := HLN.out; omega
        have e2 : f[k] = x := by rw [← hx]; simp [hkf]
        rw [List.take_succ_eq_append_getElem hkf, List.map_append, ← List.append_assoc, e2]; rfl)
      have hlen : (l ++ (f.take k).map (shiftN l.length)).length = l.length + k := by
        have := HLN.out
        simp; omega
      have hgs : w.heap.size < wr.heap.size := (Array.getElem?_eq_some_iff.1 HS.out).1
      have HRN := Lib.hid (fun (W : World) (h : Below wr.heap.size wr W) => pShift_any x k l.length w.heap.size W (by have := h.size; omega) (by
        rw [Lib.cell_of_heap ((h.block _ hgs).trans HS.out)]; rfl) (by omega) (by omega) ho)
      unfold nv at HRN
      have HWB : Hid (∀ o, Below wr.heap.size wr (wr.alloc o)) := Lib.hid (fun o => (Below.refl _ wr).alloc (Nat.le_refl _) o)
      clear hx ho
      generalize shiftN l.length x = z at *
      generalize l ++ (f.take k).map (shiftN l.length) = L at *
      go_wp2_with fail
      refine (HRN.out _ (HWB.out _)).mono ?_
      rintro e w4 ⟨rfl, hb4⟩
      have HB4 : Hid (Below wr.heap.size wr w4) := Lib.hid ((HWB.out _).trans (hb4.mono (HWB.out (.cells #[.int .i64 x.op, .int .i64 x.i, .int .i64 x.e, .int .i64 x.g, .int .i64 x.x, .int .i64 x.y] 44)).size))
      clear hb4 m0 m1 m2 m3 m4 m5 l1 l2 l3 l4 l5
      have hown4 : w4.ownsRow b0 44 6 u0 L.length (nds L) := own_keep1 HO.out (fun g hg => HB4.out.block g (HO.out.lt g hg).2)
      have HOW := Lib.hid hown4
      have HS4 := Lib.hid ((HB4.out.block _ hgs).trans HS.out)
      have hsz4 := HB4.out.size
      have hszb := HB.out.size
      clear hown4
      go_wp2_with (at_builtin; refine wp_appN z _ rfl _ _ rfl b0 _ _ rfl (HOW.out.alloc _) rfl ?k1 ?k2 ?k3 ?_)
      case k1 =>
        intro j u hj
        have hh := heap_alloc_new w4 (.cells #[.int .i64 z.op, .int .i64 z.i, .int .i64 z.e, .int .i64 z.g, .int .i64 z.x, .int .i64 z.y] 44)
        have := Lib.cell_of_heap hh j
        rw [this, ← hj]
        simp [ndC]
      case k2 => omega
      case k3 => simp; omega
      · intro v' w5 hown5 hgrow
        have HO5 : Hid (w5.ownsRow b0 44 6 v' (l ++ (f.take (k + 1)).map (shiftN l.length)).length (nds (l ++ (f.take (k + 1)).map (shiftN l.length)))) := Lib.hid (by
          rw [HT.out]
          have e : (L ++ [z]).length = l.length + k + 1 := by rw [List.length_append, hlen]; rfl
          rw [e]
          exact hown5)
        have HS5 := Lib.hid ((hgrow.block w.heap.size (by simp; omega) (fun e => int_block HS4.out HOW.out e.symm)).trans ((Below.heap_alloc w4 _ _ (by omega)).trans HS4.out))
        have HB5 : Hid (Below b0 w w5) := Lib.hid (((HB.out.trans (HB4.out.mono (by omega))).alloc (by omega) _).grown hgrow (by simp; omega) (fun g hg => (HOW.out.lt g hg).1))
        clear hown5 hgrow
        go_wp2
        go_roundw
        case rel => exact ⟨k + 1, by omega, by go_num, HO5, HS5, HB5⟩
        case measure => simp [intOf]; omega
    · have hkn : f.take k = f := by rw [List.take_of_length_le]; have := HLN.out; omega
      rw [hkn] at HO
      go_wp2
      go_ret
      exact ⟨_, rfl, HO.out, HB.out⟩
end Go.Proofs.Ytcbmncafmofcpaa
