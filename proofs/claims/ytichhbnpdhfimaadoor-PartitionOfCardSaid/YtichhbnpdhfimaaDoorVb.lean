/- Layer 3: single points by the reference; one block as a list and an error. -/
import Derived.Test.YtichhbnpdhfimaaDoorVa
namespace Go.Proofs.YtichhbnpdhfimaaDoor
open Go.RowKit Go.Proofs.Ws
theorem ints_snoc (l : List Int) (x : Int) : ints (l ++ [x]) = ints l ++ [.int .i64 x] := by simp [ints]
theorem own_readsV {w : World} {base : Nat} {e : TypeId} {v : Value} {n : Nat} {xs : List Value} (h : w.ownsRow base e 1 v n xs) : ∃ A c, v = .slice A n c ∧ Reads w w.heap.size 1 A n xs := own_reads h
theorem pTrivial_go (n : Nat) (w : World) (h : n ≤ 64) : Calls Tryd.prog 17 #[.int .i64 n] w (GO (List.replicate n 0) 0 w) := by
  refine (pTrivial_ok n w h).mono ?_
  rintro e w' ⟨rfl, rfl⟩
  exact ⟨some ⟨w.heap.size, 0, none⟩, n, by rw [List.length_replicate], rowI_reads (heap_alloc_new w _), (Below.refl _ w).alloc (Nat.le_refl _) _⟩
theorem pRefTrivial_go (n : Nat) (w : World) (h : n ≤ 64) : Calls Tryd.prog 18 #[.int .i64 n] w (GO (List.replicate n 0) 0 w) := by
  refine (pRefTrivial_ok n w h).mono ?_
  rintro e w' ⟨rfl, rfl⟩
  exact ⟨some ⟨w.heap.size, 0, none⟩, n, by rw [List.length_replicate], rowI_reads (heap_alloc_new w _), (Below.refl _ w).alloc (Nat.le_refl _) _⟩
theorem GO_none {E : Int} {w : World} : GO [] E w (.returned (.tuple #[.slice none 0 0, .int .i64 E])) w := ⟨none, 0, rfl, Reads.none_, Below.refl _ _⟩
theorem pTrivial_goB (x : Int) (w : World) (h : ¬ (0 ≤ x ∧ x ≤ 64)) : Calls Tryd.prog 17 #[.int .i64 x] w (GO [] 8 w) := by
  refine (pTrivial_bad x w h).mono ?_
  rintro e w' ⟨rfl, rfl⟩
  exact GO_none
theorem pRefTrivial_goB (x : Int) (w : World) (h : ¬ (0 ≤ x ∧ x ≤ 64)) : Calls Tryd.prog 18 #[.int .i64 x] w (GO [] 8 w) := by
  refine (pRefTrivial_bad x w h).mono ?_
  rintro e w' ⟨rfl, rfl⟩
  exact GO_none
theorem pRefDiscrete_bad (x : Int) (w : World) (h : ¬ (0 ≤ x ∧ x ≤ 64)) : Calls Tryd.prog 16 #[.int .i64 x] w (GO [] 8 w) := by
  by_cases h0 : x < 0
  · have d0 : decide (x < 0) = true := by simp; omega
    clear h h0
    go_enter Tryd.func16, Tryd.ntmps16
    go_wp2
    go_ret2
    exact GO_none
  · have d0 : decide (x < 0) = false := by simp; omega
    have d1 : decide ((64 : Int) < x) = true := by simp; omega
    clear h h0
    go_enter Tryd.func16, Tryd.ntmps16
    go_wp2
    go_ret2
    exact GO_none
set_option maxRecDepth 100000 in
set_option maxHeartbeats 2000000 in
theorem pRefDiscrete_ok (n : Nat) (w : World) (h : n ≤ 64) : Calls Tryd.prog 16 #[.int .i64 n] w (GO (finL n) 0 w) := by
  obtain ⟨i0, hi, hz0, hz1, hz2⟩ := info_parts Tryd.infoI
  have d0 : decide ((n : Int) < 0) = false := by simp
  have d1 : decide ((64 : Int) < (n : Int)) = false := by simp; omega
  go_enter Tryd.func16, Tryd.ntmps16
  go_wp2
  clear d0 d1
  go_loopw [4, 5] (fun v i wr => ∃ (k : Nat) (xs : List Value), k ≤ n ∧ i = .int .i64 k ∧ Hid (xs = ints (finL k)) ∧ wr.ownsRow w.heap.size 3 1 v k xs ∧ Below w.heap.size w wr) (fun _ i _ => n - (intOf i).toNat)
  case atStart => exact ⟨0, [], Nat.zero_le _, rfl, Lib.hid rfl, World.ownsRow_nil _ _ _ _, Below.refl _ _⟩
  case round =>
    obtain ⟨k, xs, hk, rfl, HO, hown, hb⟩ := hrel
    have hsz := hb.size
    by_cases hlt : k < n
    · have HX : Hid (xs ++ [.int .i64 k] = ints (finL (k + 1))) := Lib.hid (by rw [finL_succ, ints_snoc, HO.out])
      clear HO
      go_wp2_with (at_builtin; refine wpList_append_own _ rfl _ _ 24 rfl w.heap.size 3 i0 (.int .i64 0) 1 8 Tryd.underlying24 hi hz0 hz1 hz2 rfl (by decide) _ _ _ rfl (hown.alloc _) ⟨wr.heap.size, 0, none⟩ 1 1 [.int .i64 k] rfl rfl ?c1 ?c2 ?c3 ?c4 ?c5 ?_)
      case c1 =>
        intro j u hj
        match j, hj with
        | 0, hj => simp at hj; subst hj; simp [Addr.add]
      case c2 => intro u hu; simp at hu; subst hu; rfl
      case c3 => unfold maxLen; omega
      case c4 => omega
      case c5 => simp; omega
      intro v' w3 hown' hgrow _
      have hb3 : Below w.heap.size w w3 := (hb.alloc hsz _).grown hgrow (by simp; omega) (fun j hj => ((hown.alloc (.cells #[.int .i64 k] 3)).lt j hj).1)
      clear hgrow hown hb
      go_wp2
      go_roundw
      case rel => exact ⟨k + 1, _, by omega, by go_num, HX, hown', hb3⟩
      case measure => simp [intOf]; omega
    · have hkn : n = k := by omega
      subst hkn
      obtain ⟨A, c, rfl, hRd⟩ := own_readsV hown
      rw [HO.out] at hRd
      have HRD := Lib.hid hRd
      have HB := Lib.hid hb
      clear hRd hown hb
      go_wp2
      go_ret2
      refine ⟨A, c, ?_, by rw [finL_length]; exact HRD.out, HB.out⟩
      rw [finL_length]
      rfl
end Go.Proofs.YtichhbnpdhfimaaDoor
