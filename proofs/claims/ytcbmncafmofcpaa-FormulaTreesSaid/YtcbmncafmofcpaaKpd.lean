/- Layer 5 as plain mathematics: the text of a tree, and that it tells trees apart. -/
import Derived.Test.YtcbmncafmofcpaaKpa
namespace Go.Proofs.Ws
open Go
def headT (n : Nd) : List Int := [40, 65 + n.op, 48 + n.i, 48 + n.e, 48 + n.g]
/-- the letters of a tree's text -/
def textT : Tr → List Int
  | .leaf n => headT n ++ [41]
  | .un n a => headT n ++ (textT a ++ [41])
  | .bin n a b => headT n ++ (textT a ++ (textT b ++ [41]))
theorem headT_inj {n m : Nd} (hn : bare n = n) (hm : bare m = m) {r r' : List Int} (h : headT n ++ r = headT m ++ r') : n = m ∧ r = r' := by
  unfold headT at h
  simp only [List.cons_append, List.nil_append, List.cons.injEq] at h
  obtain ⟨_, h1, h2, h3, h4, h5⟩ := h
  refine ⟨?_, h5⟩
  rw [← hn, ← hm]
  have e1 : n.op = m.op := by omega
  have e2 : n.i = m.i := by omega
  have e3 : n.e = m.e := by omega
  have e4 : n.g = m.g := by omega
  unfold bare
  rw [e1, e2, e3, e4]
theorem textT_inj : ∀ (t s : Tr) (r r' : List Int), trOk t → trOk s → textT t ++ r = textT s ++ r' → t = s ∧ r = r'
  | .leaf n, .leaf m, r, r', ht, hs, h => by
    have h : headT n ++ [41] ++ r = headT m ++ [41] ++ r' := h
    rw [List.append_assoc, List.append_assoc] at h
    obtain ⟨e, h2⟩ := headT_inj ht.2.2 hs.2.2 h
    refine ⟨by rw [e], ?_⟩
    simpa using h2
  | .leaf n, .un m b, r, r', ht, hs, h => by
    have h : headT n ++ [41] ++ r = headT m ++ (textT b ++ [41]) ++ r' := h
    rw [List.append_assoc, List.append_assoc] at h
    obtain ⟨e, _⟩ := headT_inj ht.2.2 hs.2.2.1 h
    have h1 := ht.1
    rw [e, hs.1] at h1; cases h1
  | .leaf n, .bin m b c, r, r', ht, hs, h => by
    have h : headT n ++ [41] ++ r = headT m ++ (textT b ++ (textT c ++ [41])) ++ r' := h
    rw [List.append_assoc, List.append_assoc] at h
    obtain ⟨e, _⟩ := headT_inj ht.2.2 hs.2.2.1 h
    have h1 := ht.1
    rw [e, hs.1] at h1; cases h1
  | .un n a, .leaf m, r, r', ht, hs, h => by
    have h : headT n ++ (textT a ++ [41]) ++ r = headT m ++ [41] ++ r' := h
    rw [List.append_assoc, List.append_assoc] at h
    obtain ⟨e, _⟩ := headT_inj ht.2.2.1 hs.2.2 h
    have h1 := ht.1
    rw [e, hs.1] at h1; cases h1
  | .un n a, .un m b, r, r', ht, hs, h => by
    have h : headT n ++ (textT a ++ [41]) ++ r = headT m ++ (textT b ++ [41]) ++ r' := h
    rw [List.append_assoc, List.append_assoc, List.append_assoc, List.append_assoc] at h
    obtain ⟨e, h2⟩ := headT_inj ht.2.2.1 hs.2.2.1 h
    obtain ⟨e2, h3⟩ := textT_inj a b _ _ ht.2.2.2 hs.2.2.2 h2
    exact ⟨by rw [e, e2], by simpa using h3⟩
  | .un n a, .bin m b c, r, r', ht, hs, h => by
    have h : headT n ++ (textT a ++ [41]) ++ r = headT m ++ (textT b ++ (textT c ++ [41])) ++ r' := h
    rw [List.append_assoc, List.append_assoc] at h
    obtain ⟨e, _⟩ := headT_inj ht.2.2.1 hs.2.2.1 h
    have h1 := ht.2.1
    rw [e, hs.2.1] at h1; cases h1
  | .bin n a d, .leaf m, r, r', ht, hs, h => by
    have h : headT n ++ (textT a ++ (textT d ++ [41])) ++ r = headT m ++ [41] ++ r' := h
    rw [List.append_assoc, List.append_assoc] at h
    obtain ⟨e, _⟩ := headT_inj ht.2.2.1 hs.2.2 h
    have h1 := ht.1
    rw [e, hs.1] at h1; cases h1
  | .bin n a d, .un m b, r, r', ht, hs, h => by
    have h : headT n ++ (textT a ++ (textT d ++ [41])) ++ r = headT m ++ (textT b ++ [41]) ++ r' := h
    rw [List.append_assoc, List.append_assoc] at h
    obtain ⟨e, _⟩ := headT_inj ht.2.2.1 hs.2.2.1 h
    have h1 := ht.2.1
    rw [e, hs.2.1] at h1; cases h1
  | .bin n a d, .bin m b c, r, r', ht, hs, h => by
    have h : headT n ++ (textT a ++ (textT d ++ [41])) ++ r = headT m ++ (textT b ++ (textT c ++ [41])) ++ r' := h
    simp only [List.append_assoc] at h
    obtain ⟨e, h2⟩ := headT_inj ht.2.2.1 hs.2.2.1 h
    obtain ⟨e2, h3⟩ := textT_inj a b _ _ ht.2.2.2.1 hs.2.2.2.1 h2
    obtain ⟨e3, h4⟩ := textT_inj d c _ _ ht.2.2.2.2 hs.2.2.2.2 h3
    exact ⟨by rw [e, e2, e3], by simpa using h4⟩
theorem textT_eq {t s : Tr} (ht : trOk t) (hs : trOk s) : textT t = textT s ↔ t = s :=
  ⟨fun h => (textT_inj t s [] [] ht hs (by rw [h])).1, fun h => by rw [h]⟩
end Go.Proofs.Ws
