/- Layer 4: the number of an agent, a fact, an action model, on both sides; small signatures. -/
import Derived.Test.YtichhbnpdhfimaaDoorSg
namespace Go.Proofs.YtichhbnpdhfimaaDoor
open Go.RowKit Go.Proofs.Ws
theorem numV_ok {A F X l : List ByteArray} {x : ByteArray} (h : sigErr A F X = 0) : numV A F X l x = Lib.idxOfS l x := by unfold numV; rw [if_pos h]
theorem numV_bad {A F X l : List ByteArray} {x : ByteArray} (h : sigErr A F X ≠ 0) : numV A F X l x = -1 := by unfold numV; rw [if_neg h]
theorem pNumber_any (v : Value) (A F X l : List ByteArray) (x : ByteArray) (a : Option Addr) (n c : Nat) (w : World) (hS : SigR w w.heap.size v A F X) (hl : SL w w.heap.size a n c l) (hE : EnvS w) :
    Calls Tryd.prog 69 #[v, .slice a n c, .string x] w fun e w' => e = .returned (.int .i64 (numV A F X l x)) ∧ Below w.heap.size w w' := by
  have HC := Lib.hid (fun o => pSigCheck_any v A F X (w.alloc o) (hS.on ((Below.refl _ w).alloc (Nat.le_refl _) o)) (hE.below ((Below.refl _ w).alloc (Nat.le_refl _) o)))
  have HL := Lib.hid hl
  have hm : n ≤ 20 := hl.2.2.1
  obtain ⟨a0, n0, c0, a1, n1, c1, a2, n2, c2, rfl, _⟩ := hS
  unfold sv at HC ⊢
  clear hl hE
  by_cases h0 : sigErr A F X = 0
  · have HV := Lib.hid (numV_ok (l := l) (x := x) h0)
    rw [h0] at HC
    clear h0
    go_enter Tryd.func69, Tryd.ntmps69
    go_wp2_with fail
    refine (HC.out _).mono ?_
    rintro e w1 ⟨rfl, hb⟩
    have HB : Hid (Below w.heap.size w w1) := Lib.hid (((Below.refl _ w).alloc (Nat.le_refl _) _).trans (hb.mono (by simp)))
    have HX := Lib.hid (pIndex_any l x a n c _ w1 (HL.out.1.below HB.out) (by unfold maxLen; omega))
    clear hb HC
    go_wp2_with fail
    refine (HX.out).mono ?_
    rintro e w2 ⟨rfl, rfl⟩
    go_wp2
    go_ret
    exact ⟨ret_i64 HV.out.symm, HB.out⟩
  · have HV := Lib.hid (numV_bad (l := l) (x := x) h0)
    have hne : (sigErr A F X != 0) = true := by rw [bne_iff_ne]; exact h0
    clear h0
    go_enter Tryd.func69, Tryd.ntmps69
    go_wp2_with fail
    refine (HC.out _).mono ?_
    rintro e w1 ⟨rfl, hb⟩
    have HB : Hid (Below w.heap.size w w1) := Lib.hid (((Below.refl _ w).alloc (Nat.le_refl _) _).trans (hb.mono (by simp)))
    clear hb HC
    go_wp2
    go_ret
    exact ⟨ret_i64 HV.out.symm, HB.out⟩
theorem pAgent_any (v : Value) (A F X : List ByteArray) (x : ByteArray) (w : World) (hS : SigR w w.heap.size v A F X) (hE : EnvS w) :
    Calls Tryd.prog 36 #[v, .string x] w fun e w' => e = .returned (.int .i64 (numV A F X A x)) ∧ Below w.heap.size w w' := by
  have HS := Lib.hid hS
  obtain ⟨a0, n0, c0, a1, n1, c1, a2, n2, c2, rfl, h0, h1, h2⟩ := hS
  have HC := Lib.hid (fun o => pNumber_any _ A F X A x a0 n0 c0 (w.alloc o) (HS.out.on ((Below.refl _ w).alloc (Nat.le_refl _) o)) ((h0.below ((Below.refl _ w).alloc (Nat.le_refl _) o)).more (by simp)) (hE.below ((Below.refl _ w).alloc (Nat.le_refl _) o)))
  unfold sv at HC ⊢
  generalize numV A F X A x = z at *
  clear h0 h1 h2 hE HS
  go_enter Tryd.func36, Tryd.ntmps36
  go_wp2_with fail
  refine (HC.out _).mono ?_
  rintro e w1 ⟨rfl, hb⟩
  have HB : Hid (Below w.heap.size w w1) := Lib.hid (((Below.refl _ w).alloc (Nat.le_refl _) _).trans (hb.mono (by simp)))
  clear hb HC
  go_wp2
  go_ret
  exact ⟨rfl, HB.out⟩
theorem pRefAgent_any (v : Value) (A F X : List ByteArray) (x : ByteArray) (w : World) (hS : SigR w w.heap.size v A F X) :
    Calls Tryd.prog 37 #[v, .string x] w fun e w' => e = .returned (.int .i64 (numV A F X A x)) ∧ Below w.heap.size w w' := by
  have HC := Lib.hid (fun o => pRefSigCheck_any v A F X (w.alloc o) (hS.on ((Below.refl _ w).alloc (Nat.le_refl _) o)))
  obtain ⟨a0, n0, c0, a1, n1, c1, a2, n2, c2, rfl, h0, h1, h2⟩ := hS
  have HL := Lib.hid h0
  have hm : n0 ≤ 20 := h0.2.2.1
  unfold sv at HC ⊢
  have HBX : Hid (∀ wr, Below (w.heap.size + 1) (w.alloc (.cells #[.slice a0 n0 c0, .slice a1 n1 c1, .slice a2 n2 c2] 39)) wr → wr.cell? ⟨w.heap.size, 0, none⟩ = some (.slice a0 n0 c0)) := Lib.hid (fun wr hb => by
    have hh := heap_alloc_new w (.cells #[.slice a0 n0 c0, .slice a1 n1 c1, .slice a2 n2 c2] 39)
    refine (hb.cell (p := ⟨w.heap.size, 0, none⟩) (by simp)).trans ?_
    rw [Lib.cell_of_heap hh]; rfl)
  clear h0 h1 h2
  by_cases h0 : sigErr A F X = 0
  · have HV := Lib.hid (numV_ok (l := A) (x := x) h0)
    rw [h0] at HC
    clear h0
    go_enter Tryd.func37, Tryd.ntmps37
    go_wp2_with fail
    refine (HC.out _).mono ?_
    rintro e w1 ⟨rfl, hb⟩
    have hcell := HBX.out w1 (hb.mono (by simp))
    have HB : Hid (Below w.heap.size w w1) := Lib.hid (((Below.refl _ w).alloc (Nat.le_refl _) _).trans (hb.mono (by simp)))
    have HX := Lib.hid (pRefFind_any A x a0 n0 c0 _ w1 (HL.out.1.below HB.out) (by unfold maxLen; omega))
    clear hb HC
    go_wp2_with fail
    refine (HX.out).mono ?_
    rintro e w2 ⟨rfl, rfl⟩
    go_wp2
    go_ret
    exact ⟨ret_i64 HV.out.symm, HB.out⟩
  · have HV := Lib.hid (numV_bad (l := A) (x := x) h0)
    have hne : (sigErr A F X != 0) = true := by rw [bne_iff_ne]; exact h0
    clear h0
    go_enter Tryd.func37, Tryd.ntmps37
    go_wp2_with fail
    refine (HC.out _).mono ?_
    rintro e w1 ⟨rfl, hb⟩
    have HB : Hid (Below w.heap.size w w1) := Lib.hid (((Below.refl _ w).alloc (Nat.le_refl _) _).trans (hb.mono (by simp)))
    clear hb HC
    go_wp2
    go_ret
    exact ⟨ret_i64 HV.out.symm, HB.out⟩
theorem pFact_any (v : Value) (A F X : List ByteArray) (x : ByteArray) (w : World) (hS : SigR w w.heap.size v A F X) (hE : EnvS w) :
    Calls Tryd.prog 38 #[v, .string x] w fun e w' => e = .returned (.int .i64 (numV A F X F x)) ∧ Below w.heap.size w w' := by
  have HS := Lib.hid hS
  obtain ⟨a0, n0, c0, a1, n1, c1, a2, n2, c2, rfl, h0, h1, h2⟩ := hS
  have HC := Lib.hid (fun o => pNumber_any _ A F X F x a1 n1 c1 (w.alloc o) (HS.out.on ((Below.refl _ w).alloc (Nat.le_refl _) o)) ((h1.below ((Below.refl _ w).alloc (Nat.le_refl _) o)).more (by simp)) (hE.below ((Below.refl _ w).alloc (Nat.le_refl _) o)))
  unfold sv at HC ⊢
  generalize numV A F X F x = z at *
  clear h0 h1 h2 hE HS
  go_enter Tryd.func38, Tryd.ntmps38
  go_wp2_with fail
  refine (HC.out _).mono ?_
  rintro e w1 ⟨rfl, hb⟩
  have HB : Hid (Below w.heap.size w w1) := Lib.hid (((Below.refl _ w).alloc (Nat.le_refl _) _).trans (hb.mono (by simp)))
  clear hb HC
  go_wp2
  go_ret
  exact ⟨rfl, HB.out⟩
theorem pRefFact_any (v : Value) (A F X : List ByteArray) (x : ByteArray) (w : World) (hS : SigR w w.heap.size v A F X) :
    Calls Tryd.prog 39 #[v, .string x] w fun e w' => e = .returned (.int .i64 (numV A F X F x)) ∧ Below w.heap.size w w' := by
  have HC := Lib.hid (fun o => pRefSigCheck_any v A F X (w.alloc o) (hS.on ((Below.refl _ w).alloc (Nat.le_refl _) o)))
  obtain ⟨a0, n0, c0, a1, n1, c1, a2, n2, c2, rfl, h0, h1, h2⟩ := hS
  have HL := Lib.hid h1
  have hm : n1 ≤ 20 := h1.2.2.1
  unfold sv at HC ⊢
  have HBX : Hid (∀ wr, Below (w.heap.size + 1) (w.alloc (.cells #[.slice a0 n0 c0, .slice a1 n1 c1, .slice a2 n2 c2] 39)) wr → wr.cell? ⟨w.heap.size, 1, none⟩ = some (.slice a1 n1 c1)) := Lib.hid (fun wr hb => by
    have hh := heap_alloc_new w (.cells #[.slice a0 n0 c0, .slice a1 n1 c1, .slice a2 n2 c2] 39)
    refine (hb.cell (p := ⟨w.heap.size, 1, none⟩) (by simp)).trans ?_
    rw [Lib.cell_of_heap hh]; rfl)
  clear h0 h1 h2
  by_cases h0 : sigErr A F X = 0
  · have HV := Lib.hid (numV_ok (l := F) (x := x) h0)
    rw [h0] at HC
    clear h0
    go_enter Tryd.func39, Tryd.ntmps39
    go_wp2_with fail
    refine (HC.out _).mono ?_
    rintro e w1 ⟨rfl, hb⟩
    have hcell := HBX.out w1 (hb.mono (by simp))
    have HB : Hid (Below w.heap.size w w1) := Lib.hid (((Below.refl _ w).alloc (Nat.le_refl _) _).trans (hb.mono (by simp)))
    have HX := Lib.hid (pRefFind_any F x a1 n1 c1 _ w1 (HL.out.1.below HB.out) (by unfold maxLen; omega))
    clear hb HC
    go_wp2_with fail
    refine (HX.out).mono ?_
    rintro e w2 ⟨rfl, rfl⟩
    go_wp2
    go_ret
    exact ⟨ret_i64 HV.out.symm, HB.out⟩
  · have HV := Lib.hid (numV_bad (l := F) (x := x) h0)
    have hne : (sigErr A F X != 0) = true := by rw [bne_iff_ne]; exact h0
    clear h0
    go_enter Tryd.func39, Tryd.ntmps39
    go_wp2_with fail
    refine (HC.out _).mono ?_
    rintro e w1 ⟨rfl, hb⟩
    have HB : Hid (Below w.heap.size w w1) := Lib.hid (((Below.refl _ w).alloc (Nat.le_refl _) _).trans (hb.mono (by simp)))
    clear hb HC
    go_wp2
    go_ret
    exact ⟨ret_i64 HV.out.symm, HB.out⟩
theorem pAction_any (v : Value) (A F X : List ByteArray) (x : ByteArray) (w : World) (hS : SigR w w.heap.size v A F X) (hE : EnvS w) :
    Calls Tryd.prog 40 #[v, .string x] w fun e w' => e = .returned (.int .i64 (numV A F X X x)) ∧ Below w.heap.size w w' := by
  have HS := Lib.hid hS
  obtain ⟨a0, n0, c0, a1, n1, c1, a2, n2, c2, rfl, h0, h1, h2⟩ := hS
  have HC := Lib.hid (fun o => pNumber_any _ A F X X x a2 n2 c2 (w.alloc o) (HS.out.on ((Below.refl _ w).alloc (Nat.le_refl _) o)) ((h2.below ((Below.refl _ w).alloc (Nat.le_refl _) o)).more (by simp)) (hE.below ((Below.refl _ w).alloc (Nat.le_refl _) o)))
  unfold sv at HC ⊢
  generalize numV A F X X x = z at *
  clear h0 h1 h2 hE HS
  go_enter Tryd.func40, Tryd.ntmps40
  go_wp2_with fail
  refine (HC.out _).mono ?_
  rintro e w1 ⟨rfl, hb⟩
  have HB : Hid (Below w.heap.size w w1) := Lib.hid (((Below.refl _ w).alloc (Nat.le_refl _) _).trans (hb.mono (by simp)))
  clear hb HC
  go_wp2
  go_ret
  exact ⟨rfl, HB.out⟩
theorem pRefAction_any (v : Value) (A F X : List ByteArray) (x : ByteArray) (w : World) (hS : SigR w w.heap.size v A F X) :
    Calls Tryd.prog 41 #[v, .string x] w fun e w' => e = .returned (.int .i64 (numV A F X X x)) ∧ Below w.heap.size w w' := by
  have HC := Lib.hid (fun o => pRefSigCheck_any v A F X (w.alloc o) (hS.on ((Below.refl _ w).alloc (Nat.le_refl _) o)))
  obtain ⟨a0, n0, c0, a1, n1, c1, a2, n2, c2, rfl, h0, h1, h2⟩ := hS
  have HL := Lib.hid h2
  have hm : n2 ≤ 20 := h2.2.2.1
  unfold sv at HC ⊢
  have HBX : Hid (∀ wr, Below (w.heap.size + 1) (w.alloc (.cells #[.slice a0 n0 c0, .slice a1 n1 c1, .slice a2 n2 c2] 39)) wr → wr.cell? ⟨w.heap.size, 2, none⟩ = some (.slice a2 n2 c2)) := Lib.hid (fun wr hb => by
    have hh := heap_alloc_new w (.cells #[.slice a0 n0 c0, .slice a1 n1 c1, .slice a2 n2 c2] 39)
    refine (hb.cell (p := ⟨w.heap.size, 2, none⟩) (by simp)).trans ?_
    rw [Lib.cell_of_heap hh]; rfl)
  clear h0 h1 h2
  by_cases h0 : sigErr A F X = 0
  · have HV := Lib.hid (numV_ok (l := X) (x := x) h0)
    rw [h0] at HC
    clear h0
    go_enter Tryd.func41, Tryd.ntmps41
    go_wp2_with fail
    refine (HC.out _).mono ?_
    rintro e w1 ⟨rfl, hb⟩
    have hcell := HBX.out w1 (hb.mono (by simp))
    have HB : Hid (Below w.heap.size w w1) := Lib.hid (((Below.refl _ w).alloc (Nat.le_refl _) _).trans (hb.mono (by simp)))
    have HX := Lib.hid (pRefFind_any X x a2 n2 c2 _ w1 (HL.out.1.below HB.out) (by unfold maxLen; omega))
    clear hb HC
    go_wp2_with fail
    refine (HX.out).mono ?_
    rintro e w2 ⟨rfl, rfl⟩
    go_wp2
    go_ret
    exact ⟨ret_i64 HV.out.symm, HB.out⟩
  · have HV := Lib.hid (numV_bad (l := X) (x := x) h0)
    have hne : (sigErr A F X != 0) = true := by rw [bne_iff_ne]; exact h0
    clear h0
    go_enter Tryd.func41, Tryd.ntmps41
    go_wp2_with fail
    refine (HC.out _).mono ?_
    rintro e w1 ⟨rfl, hb⟩
    have HB : Hid (Below w.heap.size w w1) := Lib.hid (((Below.refl _ w).alloc (Nat.le_refl _) _).trans (hb.mono (by simp)))
    clear hb HC
    go_wp2
    go_ret
    exact ⟨ret_i64 HV.out.symm, HB.out⟩
/-- few names -/
theorem pFew_any (a0 a1 a2 : Option Addr) (n0 c0 n1 c1 n2 c2 : Nat) (w : World) (h0 : n0 ≤ maxLen) (h1 : n1 ≤ maxLen) (h2 : n2 ≤ maxLen) :
    Calls Tryd.prog 26 #[sv a0 n0 c0 a1 n1 c1 a2 n2 c2] w fun e w' => e = .returned (.bool (decide (n0 ≤ 12) && decide (n1 ≤ 12) && decide (n2 ≤ 12))) ∧ Below w.heap.size w w' := by
  unfold maxLen at h0 h1 h2
  unfold sv
  have HB : Hid (∀ o, Below w.heap.size w (w.alloc o)) := Lib.hid (fun o => (Below.refl _ w).alloc (Nat.le_refl _) o)
  by_cases b0 : n0 ≤ 12
  · have d0 : decide ((n0 : Int) ≤ 12) = true := by simp; omega
    by_cases b1 : n1 ≤ 12
    · have d1 : decide ((n1 : Int) ≤ 12) = true := by simp; omega
      by_cases b2 : n2 ≤ 12
      · have d2 : decide ((n2 : Int) ≤ 12) = true := by simp; omega
        have HV : Hid ((decide (n0 ≤ 12) && decide (n1 ≤ 12) && decide (n2 ≤ 12)) = true) := Lib.hid (by simp [b0, b1, b2])
        generalize (decide (n0 ≤ 12) && decide (n1 ≤ 12) && decide (n2 ≤ 12)) = b at *
        clear b0 b1 b2
        go_enter Tryd.func26, Tryd.ntmps26
        go_wp2
        go_ret
        exact ⟨ret_bool HV.out.symm, HB.out _⟩
      · have d2 : decide ((n2 : Int) ≤ 12) = false := by simp; omega
        have HV : Hid ((decide (n0 ≤ 12) && decide (n1 ≤ 12) && decide (n2 ≤ 12)) = false) := Lib.hid (by simp [b0, b1, b2])
        generalize (decide (n0 ≤ 12) && decide (n1 ≤ 12) && decide (n2 ≤ 12)) = b at *
        clear b0 b1 b2
        go_enter Tryd.func26, Tryd.ntmps26
        go_wp2
        go_ret
        exact ⟨ret_bool HV.out.symm, HB.out _⟩
    · have d1 : decide ((n1 : Int) ≤ 12) = false := by simp; omega
      have HV : Hid ((decide (n0 ≤ 12) && decide (n1 ≤ 12) && decide (n2 ≤ 12)) = false) := Lib.hid (by simp [b0, b1])
      generalize (decide (n0 ≤ 12) && decide (n1 ≤ 12) && decide (n2 ≤ 12)) = b at *
      clear b0 b1
      go_enter Tryd.func26, Tryd.ntmps26
      go_wp2
      go_ret
      exact ⟨ret_bool HV.out.symm, HB.out _⟩
  · have d0 : decide ((n0 : Int) ≤ 12) = false := by simp; omega
    have HV : Hid ((decide (n0 ≤ 12) && decide (n1 ≤ 12) && decide (n2 ≤ 12)) = false) := Lib.hid (by simp [b0])
    generalize (decide (n0 ≤ 12) && decide (n1 ≤ 12) && decide (n2 ≤ 12)) = b at *
    clear b0
    go_enter Tryd.func26, Tryd.ntmps26
    go_wp2
    go_ret
    exact ⟨ret_bool HV.out.symm, HB.out _⟩
end Go.Proofs.YtichhbnpdhfimaaDoor
