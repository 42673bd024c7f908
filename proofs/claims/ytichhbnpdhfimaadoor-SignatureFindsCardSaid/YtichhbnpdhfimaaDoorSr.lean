/- Layer 4: the examples of the chapter, one by one. -/
import Derived.Test.YtichhbnpdhfimaaDoorSq
namespace Go.Proofs.YtichhbnpdhfimaaDoor
open Go.RowKit Go.Proofs.Ws
def A3 : List ByteArray := [⟨#[97]⟩, ⟨#[98]⟩, ⟨#[99]⟩]
def F2 : List ByteArray := [⟨#[112]⟩, ⟨#[113]⟩]
def X1 : List ByteArray := [⟨#[97, 99, 116, 48]⟩]
theorem aw_default (w : World) (hE : EnvS w) : Calls Tryd.prog 33 #[.int .i64 3, .int .i64 2, .int .i64 1] w fun e w' => ∃ a0 n0 c0 a1 n1 c1 a2 n2 c2, e = .returned (.tuple #[sv a0 n0 c0 a1 n1 c1 a2 n2 c2, .int .i64 0]) ∧ SigR w' w'.heap.size (sv a0 n0 c0 a1 n1 c1 a2 n2 c2) A3 F2 X1 ∧ Below w.heap.size w w' := by
  refine (pDefault_ok 3 2 1 w hE (by omega) (by omega) (by omega)).mono ?_
  rintro e w' ⟨v, rfl, hS, hb⟩
  have hS' := hS
  obtain ⟨a0, n0, c0, a1, n1, c1, a2, n2, c2, rfl, _⟩ := hS'
  exact ⟨a0, n0, c0, a1, n1, c1, a2, n2, c2, rfl, hS, hb⟩
theorem aw_group (v : Value) (w : World) (a : Option Addr) (c : Nat) (hS : SigR w w.heap.size v A3 F2 X1) (hE : EnvS w) (hR : Reads w w.heap.size 1 a 2 (ss [⟨#[99]⟩, ⟨#[97]⟩])) :
    Calls Tryd.prog 43 #[v, .slice a 2 c] w fun e w' => e = .returned (.tuple #[.int .i64 5, .int .i64 0]) ∧ Below w.heap.size w w' := by
  have h := pGroup_any v A3 F2 X1 [⟨#[99]⟩, ⟨#[97]⟩] a 2 c w hS hR (by unfold maxLen; omega) hE
  rw [show groupV A3 F2 X1 [⟨#[99]⟩, ⟨#[97]⟩] = (5, 0) by kernel_rfl] at h
  exact h
theorem aw_text (v : Value) (w : World) (hS : SigR w w.heap.size v A3 F2 X1) (hE : EnvS w) :
    Calls Tryd.prog 45 #[v, .int .i64 5] w fun e w' => e = .returned (.tuple #[.string ⟨#[97, 44, 99]⟩, .int .i64 0]) ∧ Below w.heap.size w w' := by
  have h := pText_any v A3 F2 X1 5 w hS hE
  rw [show textV A3 F2 X1 5 = (⟨#[97, 44, 99]⟩, 0) by kernel_rfl] at h
  exact h
theorem aw_parse1 (v : Value) (w : World) (hS : SigR w w.heap.size v A3 F2 X1) (hE : EnvS w) :
    Calls Tryd.prog 47 #[v, .string ⟨#[99, 44, 97]⟩] w fun e w' => e = .returned (.tuple #[.int .i64 5, .int .i64 0]) ∧ Below w.heap.size w w' := by
  have h := pParse_any v A3 F2 X1 ⟨#[99, 44, 97]⟩ w hS hE (by decide)
  rw [show parseV A3 F2 X1 ⟨#[99, 44, 97]⟩ = (5, 0) by kernel_rfl] at h
  exact h
theorem aw_parse2 (v : Value) (w : World) (hS : SigR w w.heap.size v A3 F2 X1) (hE : EnvS w) :
    Calls Tryd.prog 47 #[v, .string ⟨#[97, 44, 44, 99]⟩] w fun e w' => e = .returned (.tuple #[.int .i64 0, .int .i64 4]) ∧ Below w.heap.size w w' := by
  have h := pParse_any v A3 F2 X1 ⟨#[97, 44, 44, 99]⟩ w hS hE (by decide)
  rw [show parseV A3 F2 X1 ⟨#[97, 44, 44, 99]⟩ = (0, 4) by kernel_rfl] at h
  exact h
theorem aw_parse3 (v : Value) (w : World) (hS : SigR w w.heap.size v A3 F2 X1) (hE : EnvS w) :
    Calls Tryd.prog 47 #[v, .string ⟨#[97, 44, 97]⟩] w fun e w' => e = .returned (.tuple #[.int .i64 0, .int .i64 7]) ∧ Below w.heap.size w w' := by
  have h := pParse_any v A3 F2 X1 ⟨#[97, 44, 97]⟩ w hS hE (by decide)
  rw [show parseV A3 F2 X1 ⟨#[97, 44, 97]⟩ = (0, 7) by kernel_rfl] at h
  exact h
theorem aw_parse4 (v : Value) (w : World) (hS : SigR w w.heap.size v A3 F2 X1) (hE : EnvS w) :
    Calls Tryd.prog 47 #[v, .string ⟨#[97, 44, 112]⟩] w fun e w' => e = .returned (.tuple #[.int .i64 0, .int .i64 6]) ∧ Below w.heap.size w w' := by
  have h := pParse_any v A3 F2 X1 ⟨#[97, 44, 112]⟩ w hS hE (by decide)
  rw [show parseV A3 F2 X1 ⟨#[97, 44, 112]⟩ = (0, 6) by kernel_rfl] at h
  exact h
theorem aw_agent (v : Value) (w : World) (hS : SigR w w.heap.size v A3 F2 X1) (hE : EnvS w) :
    Calls Tryd.prog 36 #[v, .string ⟨#[99]⟩] w fun e w' => e = .returned (.int .i64 2) ∧ Below w.heap.size w w' := by
  have h := pAgent_any v A3 F2 X1 ⟨#[99]⟩ w hS hE
  rw [show numV A3 F2 X1 A3 ⟨#[99]⟩ = 2 by kernel_rfl] at h
  exact h
theorem aw_fact1 (v : Value) (w : World) (hS : SigR w w.heap.size v A3 F2 X1) (hE : EnvS w) :
    Calls Tryd.prog 38 #[v, .string ⟨#[99]⟩] w fun e w' => e = .returned (.int .i64 (-1)) ∧ Below w.heap.size w w' := by
  have h := pFact_any v A3 F2 X1 ⟨#[99]⟩ w hS hE
  rw [show numV A3 F2 X1 F2 ⟨#[99]⟩ = -1 by kernel_rfl] at h
  exact h
theorem aw_fact2 (v : Value) (w : World) (hS : SigR w w.heap.size v A3 F2 X1) (hE : EnvS w) :
    Calls Tryd.prog 38 #[v, .string ⟨#[113]⟩] w fun e w' => e = .returned (.int .i64 1) ∧ Below w.heap.size w w' := by
  have h := pFact_any v A3 F2 X1 ⟨#[113]⟩ w hS hE
  rw [show numV A3 F2 X1 F2 ⟨#[113]⟩ = 1 by kernel_rfl] at h
  exact h
theorem aw_action (v : Value) (w : World) (hS : SigR w w.heap.size v A3 F2 X1) (hE : EnvS w) :
    Calls Tryd.prog 40 #[v, .string ⟨#[97, 99, 116, 48]⟩] w fun e w' => e = .returned (.int .i64 0) ∧ Below w.heap.size w w' := by
  have h := pAction_any v A3 F2 X1 ⟨#[97, 99, 116, 48]⟩ w hS hE
  rw [show numV A3 F2 X1 X1 ⟨#[97, 99, 116, 48]⟩ = 0 by kernel_rfl] at h
  exact h
/-- one string in a row of its own -/
theorem one_sl (w : World) (x : ByteArray) (T : TypeId) (hx : x.size ≤ 100) (g : Nat) (h : w.heap[g]? = some (.cells #[.string x] T (0, 0))) : SL w w.heap.size (some ⟨g, 0, none⟩) 1 1 [x] :=
  sl_of (l := [x]) h rfl (by omega) (by
    intro y hy
    simp at hy
    subst hy
    unfold maxLen
    omega)
theorem nil_sl (w : World) (B : Nat) : SL w B none 0 0 [] := ⟨Reads.none_, fun _ => ⟨rfl, rfl⟩, by omega, by simp, Nat.le_refl _, by omega⟩
theorem one_new (w : World) (x : ByteArray) (T : TypeId) (hx : x.size ≤ 100) : SL (w.alloc (.cells #[.string x] T)) (w.alloc (.cells #[.string x] T)).heap.size (some ⟨w.heap.size, 0, none⟩) 1 1 [x] :=
  one_sl _ x T hx _ (heap_alloc_new w (.cells #[.string x] T))
theorem aw_check1 (w : World) (T : TypeId) (hE : EnvS ((w.alloc (.cells #[.string ⟨#[97]⟩] T)).alloc (.cells #[.string ⟨#[97]⟩] T))) :
    Calls Tryd.prog 27 #[.agg #[.slice (some ⟨w.heap.size, 0, none⟩) 1 1, .slice (some ⟨w.heap.size + 1, 0, none⟩) 1 1, .slice none 0 0]] ((w.alloc (.cells #[.string ⟨#[97]⟩] T)).alloc (.cells #[.string ⟨#[97]⟩] T)) fun e w' => e = .returned (.int .i64 5) ∧ Below w.heap.size w w' := by
  have hs : (w.alloc (.cells #[.string ⟨#[97]⟩] T)).heap.size = w.heap.size + 1 := by simp
  have h1 := one_new w ⟨#[97]⟩ T (by decide)
  have h2 := one_new (w.alloc (.cells #[.string ⟨#[97]⟩] T)) ⟨#[97]⟩ T (by decide)
  have h1' := (h1.below ((Below.refl _ _).alloc (Nat.le_refl _) (.cells #[.string ⟨#[97]⟩] T))).more (B' := ((w.alloc (.cells #[.string ⟨#[97]⟩] T)).alloc (.cells #[.string ⟨#[97]⟩] T)).heap.size) (by simp)
  rw [hs] at h2
  have h := pSigCheck_any _ [⟨#[97]⟩] [⟨#[97]⟩] [] ((w.alloc (.cells #[.string ⟨#[97]⟩] T)).alloc (.cells #[.string ⟨#[97]⟩] T)) ⟨_, _, _, _, _, _, _, _, _, rfl, h1', h2, nil_sl _ _⟩ hE
  rw [show sigErr [⟨#[97]⟩] [⟨#[97]⟩] [] = 5 by kernel_rfl] at h
  exact h.mono fun e w' ⟨h3, h4⟩ => ⟨h3, (((Below.refl _ w).alloc (Nat.le_refl _) _).alloc (by simp) _).trans (h4.mono (by simp; omega))⟩
theorem aw_check2 (w : World) (T : TypeId) (hE : EnvS (w.alloc (.cells #[.string ⟨#[50, 97]⟩] T))) :
    Calls Tryd.prog 27 #[.agg #[.slice (some ⟨w.heap.size, 0, none⟩) 1 1, .slice none 0 0, .slice none 0 0]] (w.alloc (.cells #[.string ⟨#[50, 97]⟩] T)) fun e w' => e = .returned (.int .i64 3) ∧ Below w.heap.size w w' := by
  have h1 := one_new w ⟨#[50, 97]⟩ T (by decide)
  have h := pSigCheck_any _ [⟨#[50, 97]⟩] [] [] (w.alloc (.cells #[.string ⟨#[50, 97]⟩] T)) ⟨_, _, _, _, _, _, _, _, _, rfl, h1, nil_sl _ _, nil_sl _ _⟩ hE
  rw [show sigErr [⟨#[50, 97]⟩] [] [] = 3 by kernel_rfl] at h
  exact h.mono fun e w' ⟨h3, h4⟩ => ⟨h3, ((Below.refl _ w).alloc (Nat.le_refl _) _).trans (h4.mono (by simp))⟩
theorem aw_check3 (w : World) (T : TypeId) (hE : EnvS (w.alloc (.cells #[.string ⟨#[100, 111]⟩] T))) :
    Calls Tryd.prog 27 #[.agg #[.slice none 0 0, .slice (some ⟨w.heap.size, 0, none⟩) 1 1, .slice none 0 0]] (w.alloc (.cells #[.string ⟨#[100, 111]⟩] T)) fun e w' => e = .returned (.int .i64 5) ∧ Below w.heap.size w w' := by
  have h1 := one_new w ⟨#[100, 111]⟩ T (by decide)
  have h := pSigCheck_any _ [] [⟨#[100, 111]⟩] [] (w.alloc (.cells #[.string ⟨#[100, 111]⟩] T)) ⟨_, _, _, _, _, _, _, _, _, rfl, nil_sl _ _, h1, nil_sl _ _⟩ hE
  rw [show sigErr [] [⟨#[100, 111]⟩] [] = 5 by kernel_rfl] at h
  exact h.mono fun e w' ⟨h3, h4⟩ => ⟨h3, ((Below.refl _ w).alloc (Nat.le_refl _) _).trans (h4.mono (by simp))⟩
theorem aw_reserved (w : World) (hE : EnvS w) : Calls Tryd.prog 31 #[.string ⟨#[117, 110, 116, 105, 108]⟩] w fun e w' => e = .returned (.bool true) ∧ w = w' := by
  have h := pReserved_any ⟨#[117, 110, 116, 105, 108]⟩ w hE
  rw [show resV ⟨#[117, 110, 116, 105, 108]⟩ = true by kernel_rfl] at h
  exact h
theorem aw_name (w : World) : Calls Tryd.prog 29 #[.string ⟨#[120, 95, 49]⟩] w fun e w' => e = .returned (.bool true) ∧ w = w' := by
  have h := pIsName_any ⟨#[120, 95, 49]⟩ w (by unfold maxLen; decide)
  rw [show nameV ⟨#[120, 95, 49]⟩ = true by kernel_rfl] at h
  exact h
end Go.Proofs.YtichhbnpdhfimaaDoor
