/- Layer 5: numbers and formulas of a constructor that came in. -/
import Derived.Test.YtcbmncafmofcpaaMm
import Derived.Lib.SmallJoins
namespace Go.Proofs.Ytcbmncafmofcpaa
open Go.ChangeShapes Go.WideShapes Go.ChangeAt Go.RowKit Go.Proofs.Ws Go.Deep
section
variable {H : Type} {enc : TypeId × Value → H} {w : World} {base : Nat} {spare : Nat → Bool} {held : Bool}
theorem open_nodes1 {fuel : Nat} {v : Value} {x : DataW H × List MemPlace} (h : DataW.trod enc Try.prog w base spare held fuel 22 [v] = some x) : ∃ A n c l, v = .slice A n c ∧ NdRow w A n c l := by
  have hform : ∃ A n c, v = .slice A n c := by
    rcases open_slice Try.underlying22 h with ⟨hcs, _⟩ | ⟨a, len, cap, m, n', D, Pl, hcs, _⟩
    · simp at hcs; exact ⟨_, _, _, hcs⟩
    · simp at hcs; exact ⟨_, _, _, hcs⟩
  obtain ⟨A, n, c, rfl⟩ := hform
  obtain ⟨l, hl⟩ := open_nodes h
  exact ⟨A, n, c, l, rfl, hl⟩
theorem sliceCells : Try.prog.cellsOf 22 = 1 := by kernel_rfl
theorem field_nodes {n' : Nat} {cs : List Value} {xs : List (DataW H × List MemPlace)} {j : Nat} (hl : cs.length = 6) (hj : j < 6) (hx : j < xs.length)
    (h : DataW.trod enc Try.prog w base spare held n' 22 ((cs.drop j).take (Try.prog.cellsOf 22)) = xs[j]?) : ∃ A n c l, cs[j]? = some (.slice A n c) ∧ NdRow w A n c l := by
  rw [sliceCells, List.drop_eq_getElem_cons (by omega), List.take_succ_cons, List.take_zero, List.getElem?_eq_getElem hx] at h
  obtain ⟨A, n, c, l, hv, hr⟩ := open_nodes1 h
  exact ⟨A, n, c, l, by rw [List.getElem?_eq_getElem (by omega), hv], hr⟩
theorem partsCells : Try.prog.cellsOf 35 = 6 := by kernel_rfl
theorem open_parts {r : Reach} {b0 : Nat} {v : Value} {d : DataW H} {p : List MemPlace} (hv : Value.okWide Try.prog w r b0 35 v)
    (h : DataW.Trod enc Try.prog w base spare held 35 v d p) :
    ∃ k i e g Af nf cf Ah nh ch f h', v = .agg #[.int .i64 k, .int .i64 i, .int .i64 e, .int .i64 g, .slice Af nf cf, .slice Ah nh ch] ∧ NdRow w Af nf cf f ∧ NdRow w Ah nh ch h' := by
  obtain ⟨cs, rfl, hsz⟩ := okWide_struct Try.underlying35 hv
  obtain ⟨fuel, hf⟩ := h
  obtain ⟨xs, m, _, _, hl, hxl, hff⟩ := DataW.trod_struct Try.underlying35 hf
  have hcl : (Value.agg cs).cells.toList = cs.toList := rfl
  rw [hcl] at hl hff
  rw [partsCells] at hl
  have hx6 : xs.length = 6 := hxl
  obtain ⟨z0, c0, _⟩ := field_int (j := 0) hl (by decide) (by omega) (hff 0 _ rfl)
  obtain ⟨z1, c1, _⟩ := field_int (j := 1) hl (by decide) (by omega) (hff 1 _ rfl)
  obtain ⟨z2, c2, _⟩ := field_int (j := 2) hl (by decide) (by omega) (hff 2 _ rfl)
  obtain ⟨z3, c3, _⟩ := field_int (j := 3) hl (by decide) (by omega) (hff 3 _ rfl)
  obtain ⟨Af, nf, cf, f, c4, r4⟩ := field_nodes (j := 4) hl (by decide) (by omega) (hff 4 _ rfl)
  obtain ⟨Ah, nh, ch, h', c5, r5⟩ := field_nodes (j := 5) hl (by decide) (by omega) (hff 5 _ rfl)
  refine ⟨z0, z1, z2, z3, Af, nf, cf, Ah, nh, ch, f, h', ?_, r4, r5⟩
  obtain ⟨l⟩ := cs
  match l, hl with
  | [a, b, c, d, e, f], _ =>
    simp at c0 c1 c2 c3 c4 c5
    simp [c0, c1, c2, c3, c4, c5]
end
end Go.Proofs.Ytcbmncafmofcpaa
