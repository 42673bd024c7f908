/- Words for the laws of layer 2: what both sides hand back, told alike. -/
import Derived.Test.YtogjbghieoifjaaDoorWq
namespace Go.Proofs.YtogjbghieoifjaaDoor
open Go.RowKit Go.Proofs.Ws
theorem toB_same {P : Program} {f : FuncId} {a : Array Value} {w : World} {v : Ending} (h : Calls P f a w fun e w' => e = v ∧ w = w') : Calls P f a w fun e w' => e = v ∧ Below w.heap.size w w' :=
  h.mono fun _ _ ⟨he, hw⟩ => ⟨he, hw ▸ Below.refl _ _⟩
theorem toB_drew {P : Program} {f : FuncId} {a : Array Value} {w : World} {v : Ending} (h : Calls P f a w fun e w' => e = v ∧ ∃ q, w' = w.drewN q) : Calls P f a w fun e w' => e = v ∧ Below w.heap.size w w' :=
  h.mono fun _ _ ⟨he, q, hw⟩ => ⟨he, hw ▸ below_drewN (Below.refl _ _) q⟩
/-- a list of words and an error -/
def GivesX (L : List Nat) (x : Int) (w : World) (e : Ending) (w' : World) : Prop :=
  ∃ A m c, e = .returned (.tuple #[.slice A m c, .int .i64 x]) ∧ Reads w' w'.heap.size 1 A m (us L) ∧ Below w.heap.size w w' ∧ m ≤ 64
def pickL (x : Int) (V : List Nat) : List Nat := if x = 0 then V else []
theorem givesX {x : Int} {V : List Nat} {w w' : World} {e : Ending} (hV : x = 0 → V.length ≤ 64) (h : (x = 0 ∧ GivesR V w e w') ∨ (x ≠ 0 ∧ GivesE x w e w')) : GivesX (pickL x V) x w e w' := by
  rcases h with ⟨h0, A, c, he, hR, hb⟩ | ⟨h0, he, hb⟩
  · refine ⟨A, V.length, c, by rw [he, h0], ?_, hb, hV h0⟩
    unfold pickL; rw [if_pos h0]; exact hR
  · refine ⟨none, 0, 0, he, ?_, hb, Nat.zero_le _⟩
    unfold pickL; rw [if_neg h0]; exact Reads.none_
/-- a closure, or nothing -/
def CloX (n : Nat) (P : List Nat → Prop) (r : List Nat) (x : Int) (L : List Nat) : Prop := (x = 0 ∧ IsClo n P r L) ∨ (x ≠ 0 ∧ L = [])
theorem CloX.unique {n : Nat} {P : List Nat → Prop} {r L M : List Nat} {x : Int} (h : CloX n P r x L) (k : CloX n P r x M) : L = M := by
  rcases h with ⟨h0, h⟩ | ⟨h0, rfl⟩
  · rcases k with ⟨_, k⟩ | ⟨k0, _⟩
    · exact h.unique k
    · exact absurd h0 k0
  · rcases k with ⟨k0, _⟩ | ⟨_, rfl⟩
    · exact absurd k0 h0
    · rfl
theorem cloX {n : Nat} {P : List Nat → Prop} {r : List Nat} {x : Int} {w w' : World} {e : Ending} (hn : x = 0 → n ≤ 64) (h : (x = 0 ∧ ∃ C, IsClo n P r C ∧ GivesR C w e w') ∨ (x ≠ 0 ∧ GivesE x w e w')) :
    ∃ L, CloX n P r x L ∧ GivesX L x w e w' := by
  rcases h with ⟨h0, C, hC, A, c, he, hR, hb⟩ | ⟨h0, he, hb⟩
  · refine ⟨C, .inl ⟨h0, hC⟩, A, C.length, c, by rw [he, h0], hR, hb, ?_⟩
    rw [hC.sh.1]; exact hn h0
  · exact ⟨[], .inr ⟨h0, rfl⟩, none, 0, 0, he, Reads.none_, hb, Nat.zero_le _⟩
theorem symX {n : Nat} {r : List Nat} {x : Int} {w w' : World} {e : Ending} (hn : x = 0 → Sh n r ∧ n ≤ 64) (h : (x = 0 ∧ GivesR (symV r) w e w') ∨ (x ≠ 0 ∧ GivesE x w e w')) :
    ∃ L, CloX n PSym r x L ∧ GivesX L x w e w' := by
  refine cloX (fun h0 => (hn h0).2) ?_
  rcases h with ⟨h0, h⟩ | h
  · exact .inl ⟨h0, symV r, symV_clo r (hn h0).1, h⟩
  · exact .inr h
theorem same_self (L : List Nat) (A A2 : Option Addr) (m m2 c c2 : Nat) (w : World) (hR : Reads w w.heap.size 1 A m (us L)) (hR2 : Reads w w.heap.size 1 A2 m2 (us L)) (hm : m ≤ 64) (hm2 : m2 ≤ 64) :
    Calls Tryd.prog 19 #[.slice A m c, .slice A2 m2 c2] w fun e w' => e = .returned (.bool true) ∧ Below w.heap.size w w' := by
  have h := same_any L L A A2 m m2 c c2 w.heap.size w hR hR2 (by unfold maxLen; omega) (by unfold maxLen; omega)
  rw [decide_eq_true rfl] at h
  exact toB_drew h
theorem relErr64 {l : List Nat} {n : Nat} (hl : l.length = n) (h : relErr l.length l = 0) : n ≤ 64 ∧ Sh n l := by
  rw [hl] at h
  exact ⟨relErr_zero h, hl, relErr_rows h⟩
theorem PathIs.len {R : List Nat} {n frm s : Nat} {p : List Nat} (h : PathIs R n frm s p) : p.length ≤ n + 1 := by
  rcases h with ⟨_, rfl⟩ | ⟨_, _, rfl⟩ | ⟨_, K, hK, _, _, rfl⟩
  · exact Nat.zero_le _
  · exact Nat.zero_le _
  · rw [down_len]; omega
end Go.Proofs.YtogjbghieoifjaaDoor
