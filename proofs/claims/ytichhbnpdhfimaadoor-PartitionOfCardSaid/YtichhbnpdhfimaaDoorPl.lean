/- Layer 3: refinement, the trivial partition, partitions by keys; Join of no points. -/
import Derived.Test.YtichhbnpdhfimaaDoorPk
namespace Go.Proofs.YtichhbnpdhfimaaDoor
open Go.RowKit Go.Proofs.Ws
/-- each block of a lies in one of b -/
def RefP (a b : List Int) (n : Nat) : Prop := ∀ i, i < n → b.getD i 0 = b.getD (fo a i) 0
set_option maxRecDepth 100000 in
theorem refines_any (a b : List Int) (A A2 : Option Addr) (n c c2 : Nat) (w : World) (hR : Reads w w.heap.size 1 A n (ints a)) (hR2 : Reads w w.heap.size 1 A2 n (ints b)) (hm : n ≤ 64) (ha : partErr a = 0) (hb : partErr b = 0) :
    Calls Tryd.prog 55 #[.slice A n c, .slice A2 n c2] w fun e w' => (∃ bb : Bool, e = .returned (.bool bb) ∧ (bb = true ↔ RefP a b n)) ∧ Below w.heap.size w w' := by
  have H1 := Lib.hid (checkBoth_ok a b A A2 n c c2 w hR hR2 hm ha hb)
  have HFA := Lib.hid (part_forest ha)
  have HLA := Lib.hid hR.int_len
  have HR := Lib.hid hR
  have HR2 := Lib.hid hR2
  clear hR hR2 ha hb
  go_enter Tryd.func55, Tryd.ntmps55
  go_wp2_with fail
  refine (H1.out).mono ?_
  rintro e w' ⟨rfl, rfl⟩
  go_wp2
  go_loopw [13] (fun i wr => ∃ k q : Nat, k ≤ n ∧ i = .int .i64 k ∧ Hid (∀ i, i < k → b.getD i 0 = b.getD (fo a i) 0) ∧ wr = w.drewN q) (fun i _ => n - (intOf i).toNat)
  case atStart => exact ⟨0, 0, Nat.zero_le _, rfl, Lib.hid (fun i hi => absurd hi (by omega)), rfl⟩
  case round =>
    obtain ⟨k, q, hk, rfl, HI, rfl⟩ := hrel
    by_cases hlt : k < n
    · obtain ⟨ad, rfl, _, hc⟩ := HR.out.int_at hlt
      rw [HFA.out.at_ (show k < a.length by have := HLA.out; omega)] at hc
      have hy : fo a k < n := fo_lt HFA.out hlt
      obtain ⟨ad2, rfl, _, hc2⟩ := HR2.out.int_at hlt
      obtain ⟨_, hA, _, hc3⟩ := HR2.out.int_at hy
      cases hA
      by_cases heq : b.getD k 0 = b.getD (fo a k) 0
      · have HN : Hid (∀ i, i < k + 1 → b.getD i 0 = b.getD (fo a i) 0) := Lib.hid (fun i hi => by
          by_cases e : i = k
          · subst e; exact heq
          · exact HI.out i (by omega))
        have hb1 : (b.getD k 0 != b.getD (fo a k) 0) = false := by rw [heq]; simp
        clear heq HI
        generalize b.getD k 0 = x at *
        generalize b.getD (fo a k) 0 = z at *
        generalize fo a k = y at *
        go_wp2
        go_quiet (fail)
        go_wp2
        go_roundw
        case rel => exact ⟨k + 1, q + nq, by omega, by go_num, HN, by first | rfl | rw [World.drewN_drewN]⟩
        case measure => simp [intOf]; omega
      · have HN : Hid (¬ RefP a b n) := Lib.hid (fun h => heq (h k hlt))
        have hb1 : (b.getD k 0 != b.getD (fo a k) 0) = true := by rw [bne_iff_ne]; exact heq
        clear heq HI
        generalize b.getD k 0 = x at *
        generalize b.getD (fo a k) 0 = z at *
        generalize fo a k = y at *
        go_wp2
        go_quiet (fail)
        go_wp2
        go_ret
        exact ⟨⟨false, rfl, by first | exact ⟨fun h => by cases h, fun h => absurd h HN.out⟩ | exact HN.out | simpa using HN.out⟩, below_drewN (below_drewN (Below.refl _ _) _) _⟩
    · have hkn : n = k := by omega
      subst hkn
      have HY : Hid (RefP a b n) := Lib.hid HI.out
      clear HI
      go_wp2
      go_ret
      exact ⟨⟨true, rfl, by first | exact ⟨fun _ => HY.out, fun _ => rfl⟩ | exact HY.out | simpa using HY.out⟩, below_drewN (Below.refl _ _) _⟩
theorem trivial_any (n : Nat) (w : World) (hm : n ≤ 64) :
    Calls Tryd.prog 17 #[.int .i64 (n : Int)] w (GivesP (List.replicate n 0) n w) := by
  have hmk := fun W => makeI W n (by omega)
  have hd1 : decide ((n : Int) < 0) = false := by simp
  have hd2 : decide ((64 : Int) < (n : Int)) = false := by simp; omega
  have hd3 : decide (64 < n) = false := by simp; omega
  have HH := Lib.hid (HoldsI.made w (List.replicate n 0))
  have HB : Hid (Below w.heap.size w (w.alloc (.cells (ints (List.replicate n 0)).toArray 3))) := Lib.hid ((Below.refl _ w).alloc (Nat.le_refl _) _)
  go_enter Tryd.func17, Tryd.ntmps17
  go_wp2
  go_ret2
  refine ⟨_, n, rfl, ?_, HB.out⟩
  have := HH.out.reads
  rwa [List.length_replicate] at this
theorem zeros_ok (n : Nat) (hm : n ≤ 64) : partErr (List.replicate n 0) = 0 :=
  partErr_ok (by simpa using hm) (fun i hi => by
    have hg : ∀ j, (List.replicate n (0 : Int)).getD j 0 = 0 := fun j => by
      rw [List.getD_eq_getElem?_getD, List.getElem?_replicate]; split <;> rfl
    have e0 : okAt (List.replicate n 0) i = (decide ((0 : Int) ≤ 0) && decide ((0 : Int) ≤ (i : Int)) && decide ((List.replicate n (0 : Int)).getD (0 : Int).toNat 0 = 0)) := by unfold okAt; rw [hg i]
    rw [e0, hg, decide_eq_true (show (0 : Int) ≤ (i : Int) by omega)]; rfl)
theorem zeros_wf (n : Nat) : WFs (List.replicate n 0) := fun i => by
  have hg : (List.replicate n (0 : Int)).getD i 0 = 0 := by
    rw [List.getD_eq_getElem?_getD, List.getElem?_replicate]; split <;> rfl
  rw [hg]; decide
/-- the partition by keys -/
def keyP (l : List Int) : List Int := canonL (List.replicate l.length 0) l
theorem lawOf_any (l : List Int) (A : Option Addr) (n c : Nat) (w : World) (hR : Reads w w.heap.size 1 A n (ints l)) (hm : n ≤ 64) (wl : WFs l) :
    Calls Tryd.prog 20 #[.slice A n c] w fun e w' => ∃ A' c', e = .returned (.tuple #[.slice A' n c', .bool true]) ∧ Reads w' w'.heap.size 1 A' n (ints (keyP l)) ∧ Below w.heap.size w w' := by
  have hl := hR.int_len
  have H1 := Lib.hid (trivial_any n w hm)
  have HR := Lib.hid hR
  have HW := Lib.hid wl
  clear hR wl
  go_enter Tryd.func20, Tryd.ntmps20
  go_wp2_with fail
  refine (H1.out).mono ?_
  rintro e w1 ⟨A1, c1, rfl, hR1, hb1⟩
  have H2 := Lib.hid (split_core (List.replicate n 0) l A1 A n c1 c w1 hR1 ((HR.out.below hb1).more hb1.size) (by unfold maxLen; omega) (zeros_wf n) HW.out (zeros_ok n hm))
  have HB1 := Lib.hid hb1
  clear hR1 hb1
  go_wp2_with fail
  refine (H2.out).mono ?_
  rintro e w2 ⟨A2, c2, rfl, hR2, hb2⟩
  have HH := Lib.hid (And.intro hR2 (HB1.out.trans (hb2.mono HB1.out.size)))
  have hne : ((n : Int) == (n : Int)) = true := by simp
  clear hR2 hb2
  go_wp2
  go_ret2
  exact ⟨A2, c2, rfl, by unfold keyP; rw [hl]; exact HH.out.1, HH.out.2⟩
end Go.Proofs.YtichhbnpdhfimaaDoor
