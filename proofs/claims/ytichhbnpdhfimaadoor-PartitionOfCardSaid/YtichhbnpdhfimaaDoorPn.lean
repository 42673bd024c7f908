/- Mathematics of partitions: the order of refinement, meet and join as its bounds. -/
import Derived.Test.YtichhbnpdhfimaaDoorPm
namespace Go.Proofs.YtichhbnpdhfimaaDoor
open Go.RowKit Go.Proofs.Ws
/-- a partition of n points -/
structure Can (n : Nat) (q : List Int) : Prop where
  len : q.length = n
  ok : partErr q = 0
/-- q refines r -/
def Rf (q r : List Int) : Prop := ∀ i, fo r (fo q i) = fo r i
theorem Can.idem {n : Nat} {q : List Int} (h : Can n q) (i : Nat) : fo q (fo q i) = fo q i := by
  have hf := part_forest h.ok
  have h1 := root_step hf.le i
  rw [part_root h.ok, part_root h.ok] at h1
  exact h1
theorem Can.refl {n : Nat} {q : List Int} (h : Can n q) : Rf q q := h.idem
theorem Rf.trans {q r s : List Int} (h : Rf q r) (k : Rf r s) : Rf q s := fun i => by
  rw [← k (fo q i), h i, k i]
theorem Can.ext {n : Nat} {q r : List Int} (hq : Can n q) (hr : Can n r) (h : ∀ i, fo q i = fo r i) : q = r := by
  apply List.ext_getElem
  · rw [hq.len, hr.len]
  · intro i h1 h2
    have e1 := (part_forest hq.ok).at_ h1
    have e2 := (part_forest hr.ok).at_ h2
    rw [List.getD_eq_getElem?_getD, List.getElem?_eq_getElem h1] at e1
    rw [List.getD_eq_getElem?_getD, List.getElem?_eq_getElem h2] at e2
    have e1' : q[i] = (fo q i : Int) := e1
    have e2' : r[i] = (fo r i : Int) := e2
    rw [e1', e2', h]
theorem Rf.antisymm {n : Nat} {q r : List Int} (hq : Can n q) (hr : Can n r) (h : Rf q r) (k : Rf r q) : q = r := by
  refine hq.ext hr (fun i => ?_)
  have h1 : fo r i ≤ fo q i := by rw [← h i]; exact (part_forest hr.ok).le _
  have h2 : fo q i ≤ fo r i := by rw [← k i]; exact (part_forest hq.ok).le _
  omega
theorem refP_iff {n : Nat} {a b : List Int} (ha : Can n a) (hb : Can n b) : RefP a b n ↔ Rf a b := by
  have hfa := part_forest ha.ok
  have hfb := part_forest hb.ok
  constructor
  · intro h i
    by_cases hi : i < n
    · have := h i hi
      rw [hfb.at_ (by rw [hb.len]; exact hi), hfb.at_ (by rw [hb.len]; exact fo_lt hfa hi)] at this
      omega
    · have e : fo a i = i := by unfold fo; rw [if_neg (by rw [ha.len]; exact hi)]
      rw [e]
  · intro h i hi
    rw [hfb.at_ (by rw [hb.len]; exact hi), hfb.at_ (by rw [hb.len]; exact fo_lt hfa hi), h i]
theorem firstAt_idem (a b : List Int) (i : Nat) : firstAt a b (firstAt a b i) = firstAt a b i := by
  obtain ⟨h1, h2, h3⟩ := firstAt_spec a b i
  exact firstAt_unique a b _ _ (sameAt_self a b _) (fun j hj => by rw [← sameAt_trans h1]; exact h3 j hj)
section
variable {n : Nat} {a b : List Int} (hla : a.length = n) (hm : n ≤ 64)
include hla
theorem canonL_len : (canonL a b).length = n := by simp [canonL, hla]
theorem canonL_getD {i : Nat} (hi : i < n) : (canonL a b).getD i 0 = (firstAt a b i : Int) := by
  unfold canonL
  rw [List.getD_eq_getElem?_getD, List.getElem?_map, List.getElem?_range (by rw [hla]; exact hi)]; rfl
include hm
theorem canon_can : Can n (canonL a b) where
  len := canonL_len hla
  ok := partErr_ok (by rw [canonL_len hla]; exact hm) (fun i hi => by
    rw [canonL_len hla] at hi
    have h2 := (firstAt_spec a b i).2.1
    unfold okAt
    rw [canonL_getD hla hi, Int.toNat_natCast, canonL_getD hla (show firstAt a b i < n by omega), firstAt_idem a b, decide_eq_true rfl, decide_eq_true (show (0 : Int) ≤ (firstAt a b i : Int) by omega), decide_eq_true (show (firstAt a b i : Int) ≤ (i : Int) by omega)]; rfl)
end
theorem fo_canon {n : Nat} {a b : List Int} (hla : a.length = n) {i : Nat} (hi : i < n) : fo (canonL a b) i = firstAt a b i := by
  unfold fo
  rw [if_pos (by rw [canonL_len hla]; exact hi), canonL_getD hla hi]; simp
theorem fo_out {l : List Int} {n i : Nat} (hl : l.length = n) (hi : ¬ i < n) : fo l i = i := by unfold fo; rw [if_neg (by rw [hl]; exact hi)]
theorem meet_l {n : Nat} {a b : List Int} (ha : Can n a) : Rf (canonL a b) a := fun i => by
  by_cases hi : i < n
  · rw [fo_canon ha.len hi]
    have h := (sameAt_iff a b i _).1 (firstAt_spec a b i).1
    have h2 := (firstAt_spec a b i).2.1
    have e1 := (part_forest ha.ok).at_ (i := i) (by rw [ha.len]; exact hi)
    have e2 := (part_forest ha.ok).at_ (i := firstAt a b i) (by rw [ha.len]; omega)
    have := h.1
    rw [e1, e2] at this
    omega
  · rw [fo_out (canonL_len ha.len) hi]
theorem meet_r {n : Nat} {a b : List Int} (ha : Can n a) (hb : Can n b) : Rf (canonL a b) b := fun i => by
  by_cases hi : i < n
  · rw [fo_canon ha.len hi]
    have h := (sameAt_iff a b i _).1 (firstAt_spec a b i).1
    have h2 := (firstAt_spec a b i).2.1
    have e1 := (part_forest hb.ok).at_ (i := i) (by rw [hb.len]; exact hi)
    have e2 := (part_forest hb.ok).at_ (i := firstAt a b i) (by rw [hb.len]; omega)
    have := h.2
    rw [e1, e2] at this
    omega
  · rw [fo_out (canonL_len ha.len) hi]
theorem meet_glb {n : Nat} {a b : List Int} (ha : Can n a) (hb : Can n b) {q : List Int} (hq : Can n q) (h1 : Rf q a) (h2 : Rf q b) : Rf q (canonL a b) := fun i => by
  by_cases hi : i < n
  · have hqi := fo_lt (part_forest hq.ok) hi
    rw [fo_canon ha.len hi, fo_canon ha.len hqi]
    have hs : sameAt a b i (fo q i) = true := (sameAt_iff a b i _).2 ⟨by
      rw [(part_forest ha.ok).at_ (by rw [ha.len]; exact hqi), (part_forest ha.ok).at_ (by rw [ha.len]; exact hi), h1 i], by
      rw [(part_forest hb.ok).at_ (by rw [hb.len]; exact hqi), (part_forest hb.ok).at_ (by rw [hb.len]; exact hi), h2 i]⟩
    obtain ⟨s1, _, s3⟩ := firstAt_spec a b i
    exact firstAt_unique a b _ _ (by rw [← sameAt_trans hs]; exact s1) (fun j hj => by rw [← sameAt_trans hs]; exact s3 j hj)
  · rw [fo_out hq.len hi]
/-- the finest partition that both refine -/
structure Lub (n : Nat) (a b j : List Int) : Prop where
  can : Can n j
  l : Rf a j
  r : Rf b j
  least : ∀ q, Rf a q → Rf b q → Rf j q
theorem fo_root {l : List Int} {n : Nat} (hl : l.length = n) (i : Nat) : fo (rootL l n) i = root (fo l) i := by
  by_cases hi : i < n
  · unfold fo
    rw [if_pos (by simp [rootL]; exact hi)]
    unfold rootL
    rw [List.getD_eq_getElem?_getD, List.getElem?_map, List.getElem?_range hi]; rfl
  · rw [fo_out (by simp [rootL]) hi, root_top (by rw [fo_out hl hi]; omega)]
theorem JInv.lub {a b : List Int} {n : Nat} {l : List Int} (h : JInv a b n n l) (ha : Can n a) (hb : Can n b) (hm : n ≤ 64) : Lub n a b (rootL l n) := by
  have hfo := fo_root h.len
  have hlen : (rootL l n).length = n := by simp [rootL]
  refine ⟨⟨hlen, partErr_ok (by rw [hlen]; exact hm) (fun i hi => ?_)⟩, fun i => ?_, fun i => ?_, fun q hqa hqb i => ?_⟩
  · rw [hlen] at hi
    have hle := root_le h.forest.le i
    have e : ∀ j, j < n → (rootL l n).getD j 0 = (root (fo l) j : Int) := fun j hj => by
      unfold rootL
      rw [List.getD_eq_getElem?_getD, List.getElem?_map, List.getElem?_range hj]; rfl
    unfold okAt
    rw [e i hi, Int.toNat_natCast, e _ (show root (fo l) i < n by omega), root_root h.forest.le, decide_eq_true rfl, decide_eq_true (show (0 : Int) ≤ (root (fo l) i : Int) by omega), decide_eq_true (show (root (fo l) i : Int) ≤ (i : Int) by omega)]; rfl
  · rw [hfo, hfo]
    by_cases hi : i < n
    · exact h.ea i hi
    · rw [fo_out ha.len hi]
  · rw [hfo, hfo]
    by_cases hi : i < n
    · exact h.eb i hi
    · rw [fo_out hb.len hi]
  · rw [hfo]
    exact root_const (fo q) (h.least (fo q) hqa hqb) i
theorem Lub.unique {n : Nat} {a b j k : List Int} (h : Lub n a b j) (h' : Lub n a b k) : j = k :=
  Rf.antisymm h.can h'.can (h.least k h'.l h'.r) (h'.least j h.l h.r)
theorem Lub.symm {n : Nat} {a b j : List Int} (h : Lub n a b j) : Lub n b a j := ⟨h.can, h.r, h.l, fun q h1 h2 => h.least q h2 h1⟩
theorem Lub.self {n : Nat} {a : List Int} (h : Can n a) : Lub n a a a := ⟨h, h.refl, h.refl, fun _ h1 _ => h1⟩
theorem Lub.assoc {n : Nat} {a b c bc u ab v : List Int} (h1 : Lub n b c bc) (h2 : Lub n a bc u) (h3 : Lub n a b ab) (h4 : Lub n ab c v) : u = v :=
  Rf.antisymm h2.can h4.can
    (h2.least v (h3.l.trans h4.l) (h1.least v (h3.r.trans h4.l) h4.r))
    (h4.least u (h3.least u h2.l (h1.l.trans h2.r)) (h1.r.trans h2.r))
end Go.Proofs.YtichhbnpdhfimaaDoor
