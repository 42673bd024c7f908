/- Layer 3: lists of numbers in cells; the check of a partition on both sides. -/
import Derived.Test.YtofclgapgjcflaaDoorAa
namespace Go.Proofs.YtofclgapgjcflaaDoor
open Go.RowKit Go.Proofs.Ws
/-- a list of numbers in cells -/
def ints (l : List Int) : List Value := l.map (fun z => Value.int .i64 z)
theorem ints_length (l : List Int) : (ints l).length = l.length := by simp [ints]
theorem Reads.int_len {w : World} {B n : Nat} {A : Option Addr} {l : List Int} (h : Reads w B 1 A n (ints l)) : l.length = n := by
  have := h.1; rw [ints_length] at this; omega
theorem Reads.int_at {w : World} {B n : Nat} {A : Option Addr} {l : List Int} (h : Reads w B 1 A n (ints l)) {k : Nat} (hk : k < n) :
    ∃ ad, A = some ad ∧ ad.block < B ∧ w.cell? (ad.add k) = some (.int .i64 (l.getD k 0)) := by
  obtain ⟨ad, u, hA, hb, hu, hc⟩ := h.at_ hk
  unfold ints at hu
  rw [List.getElem?_map] at hu
  obtain ⟨z, hz, rfl⟩ := Option.map_eq_some_iff.1 hu
  exact ⟨ad, hA, hb, by rw [List.getD_eq_getElem?_getD, hz]; exact hc⟩
/-- the number at a place is the lowest point of its block -/
def okAt (l : List Int) (i : Nat) : Bool := decide (0 ≤ l.getD i 0) && decide (l.getD i 0 ≤ (i : Int)) && decide (l.getD (l.getD i 0).toNat 0 = l.getD i 0)
/-- the first error of a partition -/
def partErr (l : List Int) : Int := if 64 < l.length then 8 else if (List.range l.length).all (okAt l) then 0 else 3
theorem partErr_ok {l : List Int} (h : l.length ≤ 64) (ho : ∀ i, i < l.length → okAt l i = true) : partErr l = 0 := by
  unfold partErr
  rw [if_neg (by omega), if_pos (List.all_eq_true.2 (fun i hi => ho i (List.mem_range.1 hi)))]
theorem partErr_bad {l : List Int} (h : l.length ≤ 64) {i : Nat} (hi : i < l.length) (ho : okAt l i = false) : partErr l = 3 := by
  unfold partErr
  rw [if_neg (by omega), if_neg (fun hh => by have := List.all_eq_true.1 hh i (List.mem_range.2 hi); rw [ho] at this; cases this)]
end Go.Proofs.YtofclgapgjcflaaDoor
