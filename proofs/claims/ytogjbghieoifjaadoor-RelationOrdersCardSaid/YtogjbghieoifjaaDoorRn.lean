/- Contracts of layer 2: extend, at each of the steps but the euclidean one. -/
import Derived.Test.YtogjbghieoifjaaDoorSs
namespace Go.Proofs.YtogjbghieoifjaaDoor
open Go.RowKit Go.Proofs.Ws
/-- the words that a slice reads as -/
def rdL (w : World) (v : Value) : List Nat := match v with
  | .slice (some a) n _ => (List.range n).map fun k => match w.cell? (a.add k) with
    | some (.int _ z) => z.toNat
    | _ => 0
  | _ => []
theorem rdL_reads {w : World} {B n c : Nat} {A : Option Addr} {l : List Nat} (h : Reads w B 1 A n (us l)) : rdL w (.slice A n c) = l := by
  have e1 := h.word_len
  cases A with
  | none =>
    have : n = 0 := by
      apply Classical.byContradiction
      intro hn
      obtain ⟨ad, u, hA, _⟩ := h.at_ (show 0 < n by omega)
      cases hA
    subst this
    rw [List.length_eq_zero_iff.1 e1]; rfl
  | some a =>
    unfold rdL
    apply List.ext_getElem
    · simp; omega
    · intro i h1 h2
      obtain ⟨ad, x, hA, _, hk, hx, _, _, hc⟩ := h.word_at (show i < n by omega)
      cases hA
      simp only [List.getElem_map, List.getElem_range, hc]
      rw [List.getD_eq_getElem?_getD, List.getElem?_eq_getElem hk] at hx
      simpa using hx.symm
set_option maxRecDepth 100000 in
theorem extendReflexive_any (l : List Nat) (A : Option Addr) (n c : Nat) (w : World) (hR : Reads w w.heap.size 1 A n (us l)) (hS : Sh n l) (hn : n ≤ 64) (hT : Tab w) :
    Calls Tryd.prog 75 #[.slice A n c, .func (.func 49) #[] #[]] w fun e w' => ∃ A' c', e = .returned (.slice A' n c') ∧ Reads w' w'.heap.size 1 A' n (us (run reflL l n)) ∧ Below w.heap.size w w' := by
  have HC := Lib.hid (clone_any l A n c w hR hn)
  have HS := Lib.hid hS
  have HT := Lib.hid hT
  clear hR hS hT
  go_enter Tryd.func75, Tryd.ntmps75
  go_wp2_with fail
  refine (HC.out).mono ?_
  rintro e w1 ⟨A1, c1, rfl, hg, hb⟩
  have HG := Lib.hid hg
  have HB := Lib.hid hb
  clear hg hb
  by_cases hn0 : n = 0
  · subst hn0
    go_wp2
    go_loopw [11] (fun i wr => i = .int .i64 ((0 : Nat) : Int) ∧ wr = w1) (fun i _ => 0 - (intOf i).toNat)
    case atStart => exact ⟨rfl, rfl⟩
    case round =>
      obtain ⟨rfl, rfl⟩ := hrel
      go_wp2
      go_ret
      exact ⟨A1, c1, rfl, ⟨by simp [run, us, HS.out.1], fun h => absurd h (by omega)⟩, HB.out⟩
  · obtain ⟨g, rfl, hg1, hH1⟩ := HG.out (by omega)
    have HG1 := Lib.hid hg1
    have HH1 := Lib.hid hH1
    clear hg1 hH1 HG
    have hg0 : 0 < g := by have := HG1.out; have := HT.out.2; omega
    have HG0 := Lib.hid hg0
    clear hg0
    have HSTEPS := Lib.hid (reflL_steps n)
    go_wp2
    go_loopw [11] (fun i wr => ∃ k : Nat, k ≤ n ∧ i = .int .i64 k ∧ Hid (HoldsP wr g (run reflL l k) ∧ BelowBut w1.heap.size g w1 wr)) (fun i _ => n - (intOf i).toNat)
    case atStart => exact ⟨0, Nat.zero_le _, rfl, Lib.hid ⟨HH1.out, BelowBut.refl _ _ _⟩⟩
    case round =>
      obtain ⟨k, hk, rfl, HI⟩ := hrel
      by_cases hlt : k < n
      · have HW : Hid (Calls Tryd.prog 49 #[.slice (some ⟨g, 0, none⟩) n c1, .int .i64 k] wr fun e w' => e = .returned (.tuple #[]) ∧ HoldsP w' g (run reflL l (k + 1)) ∧ BelowBut w1.heap.size g w1 w') := Lib.hid (by
          have hH := HI.out.1
          have hB := HI.out.2
          have hS := (HSTEPS.out.run_sh HS.out k (by omega)).1
          have hT : Tab wr := HT.out.below (HB.out.trans ((hB.mono HB.out.size).below HG1.out))
          have hg0 := HG0.out
          have hk := hlt
          generalize hL : run reflL l k = L at hH hS
          refine (stepReflexive_any L g n c1 k wr hH (sh_words hn hS) hS.1 hk hn).mono ?_
          rintro e w' ⟨he, h1, h2⟩
          refine ⟨he, ?_, hB.trans (h2.mono hB.size)⟩
          rw [run_succ, hL]
          exact h1)
        clear HI
        go_wp2_with fail
        refine (HW.out).mono ?_
        rintro e w2 ⟨rfl, h1, h2⟩
        have H2 := Lib.hid (And.intro h1 h2)
        clear h1 h2 HW
        go_wp2
        go_roundw
        case rel => exact ⟨k + 1, by omega, by go_num, H2⟩
        case measure => simp [intOf]; omega
      · have hkn : n = k := by omega
        subst hkn
        go_wp2
        go_ret
        have hl : (run reflL l n).length = n := (HSTEPS.out.run_sh HS.out n (Nat.le_refl _)).1.1
        refine ⟨_, c1, rfl, ?_, HB.out.trans ((HI.out.2.mono HB.out.size).below HG1.out)⟩
        have := HI.out.1.reads
        rw [hl] at this
        exact this
set_option maxRecDepth 100000 in
theorem extendTransitive_any (l : List Nat) (A : Option Addr) (n c : Nat) (w : World) (hR : Reads w w.heap.size 1 A n (us l)) (hS : Sh n l) (hn : n ≤ 64) (hT : Tab w) :
    Calls Tryd.prog 75 #[.slice A n c, .func (.func 51) #[] #[]] w fun e w' => ∃ A' c', e = .returned (.slice A' n c') ∧ Reads w' w'.heap.size 1 A' n (us (run transL l n)) ∧ Below w.heap.size w w' := by
  have HC := Lib.hid (clone_any l A n c w hR hn)
  have HS := Lib.hid hS
  have HT := Lib.hid hT
  clear hR hS hT
  go_enter Tryd.func75, Tryd.ntmps75
  go_wp2_with fail
  refine (HC.out).mono ?_
  rintro e w1 ⟨A1, c1, rfl, hg, hb⟩
  have HG := Lib.hid hg
  have HB := Lib.hid hb
  clear hg hb
  by_cases hn0 : n = 0
  · subst hn0
    go_wp2
    go_loopw [11] (fun i wr => i = .int .i64 ((0 : Nat) : Int) ∧ wr = w1) (fun i _ => 0 - (intOf i).toNat)
    case atStart => exact ⟨rfl, rfl⟩
    case round =>
      obtain ⟨rfl, rfl⟩ := hrel
      go_wp2
      go_ret
      exact ⟨A1, c1, rfl, ⟨by simp [run, us, HS.out.1], fun h => absurd h (by omega)⟩, HB.out⟩
  · obtain ⟨g, rfl, hg1, hH1⟩ := HG.out (by omega)
    have HG1 := Lib.hid hg1
    have HH1 := Lib.hid hH1
    clear hg1 hH1 HG
    have hg0 : 0 < g := by have := HG1.out; have := HT.out.2; omega
    have HG0 := Lib.hid hg0
    clear hg0
    have HSTEPS := Lib.hid (transL_steps n hn)
    go_wp2
    go_loopw [11] (fun i wr => ∃ k : Nat, k ≤ n ∧ i = .int .i64 k ∧ Hid (HoldsP wr g (run transL l k) ∧ BelowBut w1.heap.size g w1 wr)) (fun i _ => n - (intOf i).toNat)
    case atStart => exact ⟨0, Nat.zero_le _, rfl, Lib.hid ⟨HH1.out, BelowBut.refl _ _ _⟩⟩
    case round =>
      obtain ⟨k, hk, rfl, HI⟩ := hrel
      by_cases hlt : k < n
      · have HW : Hid (Calls Tryd.prog 51 #[.slice (some ⟨g, 0, none⟩) n c1, .int .i64 k] wr fun e w' => e = .returned (.tuple #[]) ∧ HoldsP w' g (run transL l (k + 1)) ∧ BelowBut w1.heap.size g w1 w') := Lib.hid (by
          have hH := HI.out.1
          have hB := HI.out.2
          have hS := (HSTEPS.out.run_sh HS.out k (by omega)).1
          have hT : Tab wr := HT.out.below (HB.out.trans ((hB.mono HB.out.size).below HG1.out))
          have hg0 := HG0.out
          have hk := hlt
          generalize hL : run transL l k = L at hH hS
          refine (stepTransitive_any L g n c1 k wr hH (sh_words hn hS) hS.1 hk hn hT).mono ?_
          rintro e w' ⟨he, h1, h2⟩
          refine ⟨he, ?_, hB.trans (h2.mono hB.size)⟩
          rw [run_succ, hL]
          exact h1)
        clear HI
        go_wp2_with fail
        refine (HW.out).mono ?_
        rintro e w2 ⟨rfl, h1, h2⟩
        have H2 := Lib.hid (And.intro h1 h2)
        clear h1 h2 HW
        go_wp2
        go_roundw
        case rel => exact ⟨k + 1, by omega, by go_num, H2⟩
        case measure => simp [intOf]; omega
      · have hkn : n = k := by omega
        subst hkn
        go_wp2
        go_ret
        have hl : (run transL l n).length = n := (HSTEPS.out.run_sh HS.out n (Nat.le_refl _)).1.1
        refine ⟨_, c1, rfl, ?_, HB.out.trans ((HI.out.2.mono HB.out.size).below HG1.out)⟩
        have := HI.out.1.reads
        rw [hl] at this
        exact this
set_option maxRecDepth 100000 in
theorem extendSymmetric_any (l : List Nat) (A : Option Addr) (n c : Nat) (w : World) (hR : Reads w w.heap.size 1 A n (us l)) (hS : Sh n l) (hn : n ≤ 64) (hT : Tab w) :
    Calls Tryd.prog 75 #[.slice A n c, .func (.func 50) #[] #[]] w fun e w' => ∃ A' c', e = .returned (.slice A' n c') ∧ Reads w' w'.heap.size 1 A' n (us (run (fun l k => symL l k n) l n)) ∧ Below w.heap.size w w' := by
  have HC := Lib.hid (clone_any l A n c w hR hn)
  have HS := Lib.hid hS
  have HT := Lib.hid hT
  clear hR hS hT
  go_enter Tryd.func75, Tryd.ntmps75
  go_wp2_with fail
  refine (HC.out).mono ?_
  rintro e w1 ⟨A1, c1, rfl, hg, hb⟩
  have HG := Lib.hid hg
  have HB := Lib.hid hb
  clear hg hb
  by_cases hn0 : n = 0
  · subst hn0
    go_wp2
    go_loopw [11] (fun i wr => i = .int .i64 ((0 : Nat) : Int) ∧ wr = w1) (fun i _ => 0 - (intOf i).toNat)
    case atStart => exact ⟨rfl, rfl⟩
    case round =>
      obtain ⟨rfl, rfl⟩ := hrel
      go_wp2
      go_ret
      exact ⟨A1, c1, rfl, ⟨by simp [run, us, HS.out.1], fun h => absurd h (by omega)⟩, HB.out⟩
  · obtain ⟨g, rfl, hg1, hH1⟩ := HG.out (by omega)
    have HG1 := Lib.hid hg1
    have HH1 := Lib.hid hH1
    clear hg1 hH1 HG
    have hg0 : 0 < g := by have := HG1.out; have := HT.out.2; omega
    have HG0 := Lib.hid hg0
    clear hg0
    have HSTEPS := Lib.hid (symL_steps n)
    go_wp2
    go_loopw [11] (fun i wr => ∃ k : Nat, k ≤ n ∧ i = .int .i64 k ∧ Hid (HoldsP wr g (run (fun l k => symL l k n) l k) ∧ BelowBut w1.heap.size g w1 wr)) (fun i _ => n - (intOf i).toNat)
    case atStart => exact ⟨0, Nat.zero_le _, rfl, Lib.hid ⟨HH1.out, BelowBut.refl _ _ _⟩⟩
    case round =>
      obtain ⟨k, hk, rfl, HI⟩ := hrel
      by_cases hlt : k < n
      · have HW : Hid (Calls Tryd.prog 50 #[.slice (some ⟨g, 0, none⟩) n c1, .int .i64 k] wr fun e w' => e = .returned (.tuple #[]) ∧ HoldsP w' g (run (fun l k => symL l k n) l (k + 1)) ∧ BelowBut w1.heap.size g w1 w') := Lib.hid (by
          have hH := HI.out.1
          have hB := HI.out.2
          have hS := (HSTEPS.out.run_sh HS.out k (by omega)).1
          have hT : Tab wr := HT.out.below (HB.out.trans ((hB.mono HB.out.size).below HG1.out))
          have hg0 := HG0.out
          have hk := hlt
          generalize hL : run (fun l k => symL l k n) l k = L at hH hS
          refine (stepSymmetric_any L g n c1 k wr hH (sh_words hn hS) hS.2 hS.1 hk hn hT hg0).mono ?_
          rintro e w' ⟨he, h1, h2⟩
          refine ⟨he, ?_, hB.trans (h2.mono hB.size)⟩
          rw [run_succ, hL]
          exact h1)
        clear HI
        go_wp2_with fail
        refine (HW.out).mono ?_
        rintro e w2 ⟨rfl, h1, h2⟩
        have H2 := Lib.hid (And.intro h1 h2)
        clear h1 h2 HW
        go_wp2
        go_roundw
        case rel => exact ⟨k + 1, by omega, by go_num, H2⟩
        case measure => simp [intOf]; omega
      · have hkn : n = k := by omega
        subst hkn
        go_wp2
        go_ret
        have hl : (run (fun l k => symL l k n) l n).length = n := (HSTEPS.out.run_sh HS.out n (Nat.le_refl _)).1.1
        refine ⟨_, c1, rfl, ?_, HB.out.trans ((HI.out.2.mono HB.out.size).below HG1.out)⟩
        have := HI.out.1.reads
        rw [hl] at this
        exact this
end Go.Proofs.YtogjbghieoifjaaDoor
