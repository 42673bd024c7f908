/- Layer 5: both ways of building give the same formula. -/
import Derived.Test.YtcbmncafmofcpaaMv
namespace Go.Proofs.Ytcbmncafmofcpaa
open Go.RowKit Go.Proofs.Ws Go.Maps
/-- the fields that an operator does not use are 0, but for its operands -/
def cleanN (n : Nd) : Prop := (n.op = 3 ∨ hasAgent n.op = true ∨ n.op = 17 ∨ n.i = 0) ∧ (n.op = 17 ∨ n.e = 0) ∧ (hasGroup n.op = true ∨ n.g = 0)
theorem node_build {n n' : Nd} {k : Nat} (hk : known n.op = true) (hc : cleanN n) (ho : opsOk n' k) (h1 : n'.op = n.op) (h2 : n'.i = n.i) (h3 : n'.e = n.e) (h4 : n'.g = n.g) : nodeErr n' (k : Int) = 0 ↔ rangeOk n = true := by
  rw [nodeErr_iff]
  have hr : rangeOk n' = rangeOk n := by unfold rangeOk; rw [h1, h2, h3, h4]
  unfold fldOk
  rw [hr, h1, h2, h3, h4]
  exact ⟨fun h => h.2.2.2, fun h => ⟨ho, hk, hc, h⟩⟩
theorem buildF_one {n : Nd} (hk : known n.op = true) (hc : cleanN n) (hx : n.x = 0) (hy : n.y = 0) (hux : usesX n.op = false) : buildF n [] = oneF n := by
  have huy : usesY n.op = false := by
    cases h : usesY n.op with
    | false => rfl
    | true => have := usesY_X h; rw [hux] at this; cases this
  have ho : opsOk n 0 := ⟨by rw [if_neg (by rw [hux]; decide)]; exact hx, by rw [if_neg (by rw [huy]; decide)]; exact hy⟩
  have hn : nodeErr n 0 = 0 ↔ rangeOk n = true := node_build (n' := n) hk hc ho rfl rfl rfl rfl
  have hcan : canonF [n] = [n] := by
    unfold canonF
    simp [finW, hux, huy, putNd, hx, hy]
    obtain ⟨a, b, c, d, e, f⟩ := n
    simp at hx hy
    simp [hx, hy]
  unfold buildF oneF
  cases hr : rangeOk n with
  | false =>
    rw [if_pos rfl, if_neg (fun h => by have := hn.1 h; rw [hr] at this; cases this)]
  | true =>
    rw [if_neg (by decide), if_neg (by simp), if_pos (hn.2 hr)]
    show (if 200 < (canonF [n]).length then [] else canonF [n]) = [n]
    rw [hcan, if_neg (by simp)]
theorem map_shift0 : ∀ l : List Nd, l.map (shiftN 0) = l := by
  intro l
  induction l with
  | nil => rfl
  | cons a l ih =>
    rw [List.map_cons, ih]
    congr 1
    obtain ⟨o, i, e, g', x, y⟩ := a
    simp [shiftN]
theorem buildF_un {n : Nd} {f : List Nd} (hk : known n.op = true) (hc : cleanN n) (hy : n.y = 0) (hux : usesX n.op = true) (huy : usesY n.op = false) : buildF n [f] = unaryF n f := by
  unfold buildF unaryF
  by_cases hz : fErr f = 0
  · have hne : f.length ≠ 0 := by simpa using (fErr_ok hz).1
    have ho : opsOk { n with x := (f.length : Int) - 1 } f.length := ⟨by rw [if_pos hux]; dsimp only; omega, by rw [if_neg (by rw [huy]; decide)]; exact hy⟩
    have hn := node_build (n' := { n with x := (f.length : Int) - 1 }) hk hc ho rfl rfl rfl rfl
    rw [if_pos hz]
    have he : ¬ ∃ g ∈ [f], fErr g ≠ 0 := by simp [hz]
    rw [if_neg he]
    cases hr : rangeOk n with
    | false => rw [if_pos rfl, if_neg (fun h => by have := hn.1 h; rw [hr] at this; cases this)]
    | true =>
      rw [if_neg (by decide), if_pos (hn.2 hr)]
      have e : catS [f] [] = f := by simp [catS, map_shift0]
      rw [e]
      rfl
  · rw [if_neg hz]
    have he : ∃ g ∈ [f], fErr g ≠ 0 := ⟨f, by simp, hz⟩
    rw [if_pos he]
    split <;> rfl
theorem buildF_bin {n : Nd} {f g : List Nd} (hk : known n.op = true) (hc : cleanN n) (hux : usesX n.op = true) (huy : usesY n.op = true) : buildF n [f, g] = binaryF n f g := by
  unfold buildF binaryF
  by_cases hz : fErr f = 0
  · by_cases hz2 : fErr g = 0
    · have hne : f.length ≠ 0 := by simpa using (fErr_ok hz).1
      have hne2 : g.length ≠ 0 := by simpa using (fErr_ok hz2).1
      have ho : opsOk { n with x := (f.length : Int) - 1, y := (f.length + g.length : Int) - 1 } (f.length + g.length) := ⟨by rw [if_pos hux]; dsimp only; omega, by rw [if_pos huy]; dsimp only; omega⟩
      have hn := node_build (n' := { n with x := (f.length : Int) - 1, y := (f.length + g.length : Int) - 1 }) hk hc ho rfl rfl rfl rfl
      rw [if_pos hz, if_pos hz2]
      have he : ¬ ∃ h ∈ [f, g], fErr h ≠ 0 := by simp [hz, hz2]
      rw [if_neg he]
      cases hr : rangeOk n with
      | false => rw [if_pos rfl, if_neg (fun h => by have := hn.1 h; rw [hr] at this; cases this)]
      | true =>
        rw [if_neg (by decide), if_pos (hn.2 hr)]
        have e : catS [f, g] [] = f ++ g.map (shiftN f.length) := by simp [catS, map_shift0]
        rw [e]
        rfl
    · rw [if_pos hz, if_neg hz2]
      have he : ∃ h ∈ [f, g], fErr h ≠ 0 := ⟨g, by simp, hz2⟩
      rw [if_pos he]
      split <;> rfl
  · rw [if_neg hz]
    have he : ∃ h ∈ [f, g], fErr h ≠ 0 := ⟨f, by simp, hz⟩
    rw [if_pos he]
    split <;> rfl
end Go.Proofs.Ytcbmncafmofcpaa
