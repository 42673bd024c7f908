/- Layer 13: a list of numbers that came in; what the law about names needs. -/
import Derived.Test.YtofclgapgjcflaaDoorEc
import Derived.Test.YtofclgapgjcflaaDoorEm
namespace Go.Proofs.YtofclgapgjcflaaDoor.mdl
open Go.ChangeShapes Go.WideShapes Go.ChangeAt Go.RowKit Go.Proofs.YtofclgapgjcflaaDoor Go.Proofs.Ws
/-- what the row's opening says of a slice of numbers -/
def IRow (w : World) (A : Option Addr) (n c : Nat) (l : List Int) : Prop := Reads w w.heap.size 1 A n (ints l) ∧ n ≤ c ∧ n ≤ maxLen
section
variable {H : Type} {enc : TypeId × Value → H} {w : World} {base : Nat} {spare : Nat → Bool} {held : Bool}
theorem open_is0 {fuel : Nat} {v : Value} {x : DataW H × List MemPlace} (h : DataW.trod enc Tryd.prog w base spare held fuel 32 [v] = some x) : ∃ A n c l, v = .slice A n c ∧ IRow w A n c l := by
  rcases open_ints Tryd.underlying32 Tryd.underlying3 (by kernel_rfl) h with ⟨hcs, _⟩ | ⟨a, len, cap, zs, hcs, _, hl, hm, hz, _, hcell, _⟩
  · simp at hcs
    exact ⟨none, 0, 0, [], hcs, (by unfold ints; exact Reads.none_), Nat.le_refl _, Nat.zero_le _⟩
  · simp at hcs
    have hlz : len ≤ zs.length := by rw [hz]; split <;> omega
    refine ⟨some a, len, cap, zs.take len, hcs, ⟨by rw [ints_length, List.length_take]; omega, fun h0 => ⟨a, rfl, ?_, fun j u hj => ?_⟩⟩, hl, by omega⟩
    · have h1 := hcell 0 (by omega)
      have := lt_of_cell _ _ h1
      rwa [block_of_add] at this
    · unfold ints at hj
      rw [List.getElem?_map, List.getElem?_take] at hj
      split at hj
      · rename_i hjl
        have hjz : j < zs.length := by omega
        rw [List.getElem?_eq_getElem hjz] at hj
        simp at hj
        rw [hcell j hjz, List.getD_eq_getElem?_getD, List.getElem?_eq_getElem hjz, ← hj]
        rfl
      · cases hj
theorem open_is {fuel : Nat} {A : Option Addr} {n c : Nat} {x : DataW H × List MemPlace} (h : DataW.trod enc Tryd.prog w base spare held fuel 32 [.slice A n c] = some x) : ∃ l, IRow w A n c l := by
  obtain ⟨A', n', c', l, e, hr⟩ := open_is0 h
  injection e with e1 e2 e3
  subst e1 e2 e3
  exact ⟨l, hr⟩
end
theorem iv_is (l : List Nat) : iv l = ints (l.map (fun x : Nat => (x : Int))) := by
  unfold iv ints
  simp
end Go.Proofs.YtofclgapgjcflaaDoor.mdl
