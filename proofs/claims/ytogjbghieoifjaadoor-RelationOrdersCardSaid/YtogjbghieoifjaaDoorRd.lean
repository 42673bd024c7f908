/- Contracts of layer 2: composition, union and meet by the program. -/
import Derived.Test.YtogjbghieoifjaaDoorRc
import Derived.Deep.RegionWith
namespace Go.Proofs.YtogjbghieoifjaaDoor
open Go.RowKit Go.Proofs.Ws
theorem HoldsU.below {w w' : World} {B g : Nat} {l : List Nat} (h : HoldsU w g l) (hb : Below B w w') (hg : g < B) : HoldsU w' g l := (hb.block g hg).trans h
theorem set_replace (n : Nat) (f : Nat → Nat) (k : Nat) (l : List Nat) (hl : l.length = n) (hk : k < n) (h : ∀ j, j < k → l.getD j 0 = f j) : (l.set k (f k)).length = n ∧ ∀ j, j < k + 1 → (l.set k (f k)).getD j 0 = f j := by
  refine ⟨by rw [List.length_set]; exact hl, fun j hj => ?_⟩
  rw [List.getD_eq_getElem?_getD, List.getElem?_set]
  by_cases e : k = j
  · subst e
    rw [if_pos rfl, if_pos (by omega)]; rfl
  · rw [if_neg e, ← List.getD_eq_getElem?_getD]; exact h j (by omega)
theorem range_ext (n : Nat) (f : Nat → Nat) (l : List Nat) (hl : l.length = n) (h : ∀ j, j < n → l.getD j 0 = f j) : l = (List.range n).map f := by
  apply List.ext_getElem
  · simp [hl]
  · intro i h1 h2
    have := h i (by omega)
    rw [List.getD_eq_getElem?_getD, List.getElem?_eq_getElem h1] at this
    simpa using this
set_option maxRecDepth 100000 in
set_option maxHeartbeats 2000000 in
theorem combine_compose (R S : List Nat) (f : Nat → Nat) (A A2 : Option Addr) (m m2 c c2 B1 B2 : Nat) (w : World) (hR : Reads w w.heap.size 1 A m (us R)) (hS : Reads w w.heap.size 1 A2 m2 (us S)) (hw : Words R) (hw2 : Words S) (hm : m ≤ maxLen) (hm2 : m2 ≤ maxLen)
    (hF : ∀ (k : Nat) W, k < m → twoErr R S = 0 → Below w.heap.size w W → Calls Tryd.prog 55 #[.int .i64 k, .pointer (some ⟨B1, 0, none⟩), .pointer (some ⟨B2, 0, none⟩)] W fun e W' => e = .returned (.int .u64 (f k : Int)) ∧ Below W.heap.size W W') :
    Calls Tryd.prog 54 #[.slice A m c, .slice A2 m2 c2, .func (.func 55) #[] #[.pointer (some ⟨B1, 0, none⟩), .pointer (some ⟨B2, 0, none⟩)]] w fun e w' =>
      (twoErr R S = 0 ∧ GivesR ((List.range m).map f) w e w') ∨ (twoErr R S ≠ 0 ∧ GivesE (twoErr R S) w e w') := by
  have H := Lib.hid (checkBoth_any R S A A2 m c m2 c2 _ w hR hS hw hw2 hm hm2)
  have HF := Lib.hid hF
  have HM : Hid (twoErr R S = 0 → m ≤ 64) := Lib.hid (fun h => by
    have e1 := hR.word_len
    unfold twoErr at h
    split at h
    · contradiction
    · rename_i h1
      have h2 : relErr R.length R = 0 := by omega
      unfold relErr at h2
      split at h2
      · cases h2
      · omega)
  clear hw hw2 hR hS hF
  by_cases h0 : twoErr R S = 0
  · rw [h0] at H
    have hm64 := HM.out h0
    have H0 := Lib.hid h0
    have hmk := fun W => makeU W m (by omega)
    clear h0 HM
    go_enter Tryd.func54, Tryd.ntmps54
    go_wp2_with (go_at_call 76; refine (H.out).mono ?_; rintro e w' ⟨rfl, rfl⟩)
    have HH := Lib.hid (HoldsU.made w (List.replicate m 0))
    have HB := Lib.hid ((Below.refl w.heap.size w).alloc (Nat.le_refl _) (.cells (us (List.replicate m 0)).toArray 34))
    generalize hWx : w.alloc (.cells (us (List.replicate m 0)).toArray 34) = wx at *
    clear hWx hmk
    go_loopw [22] (fun i wr => ∃ (k : Nat) (l : List Nat), k ≤ m ∧ i = .int .i64 k ∧ Hid (l.length = m) ∧ Hid (HoldsU wr w.heap.size l) ∧ Hid (Below w.heap.size w wr) ∧ Hid (∀ j, j < k → l.getD j 0 = f j)) (fun i _ => m - (intOf i).toNat)
    case atStart => exact ⟨0, List.replicate m 0, by omega, rfl, Lib.hid (by simp), HH, HB, Lib.hid (fun j hj => by omega)⟩
    case round =>
      obtain ⟨k, l, hk, rfl, Hl, HH, HB, Hv⟩ := hrel
      by_cases hlt : k < m
      · have HC := Lib.hid (HF.out k wr hlt H0.out HB.out)
        go_wp2_with (go_at_call 55; refine (HC.out).mono ?_; rintro e w3 ⟨rfl, hb3⟩; have HH3 := Lib.hid (HH.out.below hb3 HH.out.lt); have HB3 := Lib.hid (HB.out.trans (hb3.mono HB.out.size)); clear hb3; have hc := HH3.out.cell k (by have := Hl.out; omega); have hf := HH3.out.free k)
        go_roundw
        case rel =>
          have hs := set_replace m f k l Hl.out hlt Hv.out
          exact ⟨k + 1, l.set k (f k), by omega, by go_num, Lib.hid hs.1, Lib.hid (HH3.out.put k (f k)), Lib.hid (HB3.out.setCell (p := ⟨w.heap.size, k, none⟩) (Nat.le_refl _) _), Lib.hid hs.2⟩
        case measure => simp [intOf]; omega
      · have HE : Hid (l = (List.range m).map f) := Lib.hid (range_ext m f l Hl.out (fun j hj => Hv.out j (by omega)))
        go_wp2
        go_ret2
        refine Or.inl ⟨H0.out, ?_⟩
        have hl := HE.out
        subst hl
        refine ⟨some ⟨w.heap.size, 0, none⟩, m, ?_, HH.out.reads, HB.out⟩
        rw [List.length_map, List.length_range]; rfl
  · have HN := Lib.hid h0
    have hne : (twoErr R S != 0) = true := by simp [h0]
    generalize twoErr R S = x at *
    clear h0 HM
    go_enter Tryd.func54, Tryd.ntmps54
    go_wp2_with (go_at_call 76; refine (H.out).mono ?_; rintro e w' ⟨rfl, rfl⟩)
    go_ret2
    exact Or.inr ⟨HN.out, rfl, Below.refl _ _⟩
set_option maxRecDepth 100000 in
set_option maxHeartbeats 2000000 in
theorem combine_union (R S : List Nat) (f : Nat → Nat) (A A2 : Option Addr) (m m2 c c2 B1 B2 : Nat) (w : World) (hR : Reads w w.heap.size 1 A m (us R)) (hS : Reads w w.heap.size 1 A2 m2 (us S)) (hw : Words R) (hw2 : Words S) (hm : m ≤ maxLen) (hm2 : m2 ≤ maxLen)
    (hF : ∀ (k : Nat) W, k < m → twoErr R S = 0 → Below w.heap.size w W → Calls Tryd.prog 59 #[.int .i64 k, .pointer (some ⟨B1, 0, none⟩), .pointer (some ⟨B2, 0, none⟩)] W fun e W' => e = .returned (.int .u64 (f k : Int)) ∧ Below W.heap.size W W') :
    Calls Tryd.prog 54 #[.slice A m c, .slice A2 m2 c2, .func (.func 59) #[] #[.pointer (some ⟨B1, 0, none⟩), .pointer (some ⟨B2, 0, none⟩)]] w fun e w' =>
      (twoErr R S = 0 ∧ GivesR ((List.range m).map f) w e w') ∨ (twoErr R S ≠ 0 ∧ GivesE (twoErr R S) w e w') := by
  have H := Lib.hid (checkBoth_any R S A A2 m c m2 c2 _ w hR hS hw hw2 hm hm2)
  have HF := Lib.hid hF
  have HM : Hid (twoErr R S = 0 → m ≤ 64) := Lib.hid (fun h => by
    have e1 := hR.word_len
    unfold twoErr at h
    split at h
    · contradiction
    · rename_i h1
      have h2 : relErr R.length R = 0 := by omega
      unfold relErr at h2
      split at h2
      · cases h2
      · omega)
  clear hw hw2 hR hS hF
  by_cases h0 : twoErr R S = 0
  · rw [h0] at H
    have hm64 := HM.out h0
    have H0 := Lib.hid h0
    have hmk := fun W => makeU W m (by omega)
    clear h0 HM
    go_enter Tryd.func54, Tryd.ntmps54
    go_wp2_with (go_at_call 76; refine (H.out).mono ?_; rintro e w' ⟨rfl, rfl⟩)
    have HH := Lib.hid (HoldsU.made w (List.replicate m 0))
    have HB := Lib.hid ((Below.refl w.heap.size w).alloc (Nat.le_refl _) (.cells (us (List.replicate m 0)).toArray 34))
    generalize hWx : w.alloc (.cells (us (List.replicate m 0)).toArray 34) = wx at *
    clear hWx hmk
    go_loopw [22] (fun i wr => ∃ (k : Nat) (l : List Nat), k ≤ m ∧ i = .int .i64 k ∧ Hid (l.length = m) ∧ Hid (HoldsU wr w.heap.size l) ∧ Hid (Below w.heap.size w wr) ∧ Hid (∀ j, j < k → l.getD j 0 = f j)) (fun i _ => m - (intOf i).toNat)
    case atStart => exact ⟨0, List.replicate m 0, by omega, rfl, Lib.hid (by simp), HH, HB, Lib.hid (fun j hj => by omega)⟩
    case round =>
      obtain ⟨k, l, hk, rfl, Hl, HH, HB, Hv⟩ := hrel
      by_cases hlt : k < m
      · have HC := Lib.hid (HF.out k wr hlt H0.out HB.out)
        go_wp2_with (go_at_call 59; refine (HC.out).mono ?_; rintro e w3 ⟨rfl, hb3⟩; have HH3 := Lib.hid (HH.out.below hb3 HH.out.lt); have HB3 := Lib.hid (HB.out.trans (hb3.mono HB.out.size)); clear hb3; have hc := HH3.out.cell k (by have := Hl.out; omega); have hf := HH3.out.free k)
        go_roundw
        case rel =>
          have hs := set_replace m f k l Hl.out hlt Hv.out
          exact ⟨k + 1, l.set k (f k), by omega, by go_num, Lib.hid hs.1, Lib.hid (HH3.out.put k (f k)), Lib.hid (HB3.out.setCell (p := ⟨w.heap.size, k, none⟩) (Nat.le_refl _) _), Lib.hid hs.2⟩
        case measure => simp [intOf]; omega
      · have HE : Hid (l = (List.range m).map f) := Lib.hid (range_ext m f l Hl.out (fun j hj => Hv.out j (by omega)))
        go_wp2
        go_ret2
        refine Or.inl ⟨H0.out, ?_⟩
        have hl := HE.out
        subst hl
        refine ⟨some ⟨w.heap.size, 0, none⟩, m, ?_, HH.out.reads, HB.out⟩
        rw [List.length_map, List.length_range]; rfl
  · have HN := Lib.hid h0
    have hne : (twoErr R S != 0) = true := by simp [h0]
    generalize twoErr R S = x at *
    clear h0 HM
    go_enter Tryd.func54, Tryd.ntmps54
    go_wp2_with (go_at_call 76; refine (H.out).mono ?_; rintro e w' ⟨rfl, rfl⟩)
    go_ret2
    exact Or.inr ⟨HN.out, rfl, Below.refl _ _⟩
set_option maxRecDepth 100000 in
set_option maxHeartbeats 2000000 in
theorem combine_meet (R S : List Nat) (f : Nat → Nat) (A A2 : Option Addr) (m m2 c c2 B1 B2 : Nat) (w : World) (hR : Reads w w.heap.size 1 A m (us R)) (hS : Reads w w.heap.size 1 A2 m2 (us S)) (hw : Words R) (hw2 : Words S) (hm : m ≤ maxLen) (hm2 : m2 ≤ maxLen)
    (hF : ∀ (k : Nat) W, k < m → twoErr R S = 0 → Below w.heap.size w W → Calls Tryd.prog 60 #[.int .i64 k, .pointer (some ⟨B1, 0, none⟩), .pointer (some ⟨B2, 0, none⟩)] W fun e W' => e = .returned (.int .u64 (f k : Int)) ∧ Below W.heap.size W W') :
    Calls Tryd.prog 54 #[.slice A m c, .slice A2 m2 c2, .func (.func 60) #[] #[.pointer (some ⟨B1, 0, none⟩), .pointer (some ⟨B2, 0, none⟩)]] w fun e w' =>
      (twoErr R S = 0 ∧ GivesR ((List.range m).map f) w e w') ∨ (twoErr R S ≠ 0 ∧ GivesE (twoErr R S) w e w') := by
  have H := Lib.hid (checkBoth_any R S A A2 m c m2 c2 _ w hR hS hw hw2 hm hm2)
  have HF := Lib.hid hF
  have HM : Hid (twoErr R S = 0 → m ≤ 64) := Lib.hid (fun h => by
    have e1 := hR.word_len
    unfold twoErr at h
    split at h
    · contradiction
    · rename_i h1
      have h2 : relErr R.length R = 0 := by omega
      unfold relErr at h2
      split at h2
      · cases h2
      · omega)
  clear hw hw2 hR hS hF
  by_cases h0 : twoErr R S = 0
  · rw [h0] at H
    have hm64 := HM.out h0
    have H0 := Lib.hid h0
    have hmk := fun W => makeU W m (by omega)
    clear h0 HM
    go_enter Tryd.func54, Tryd.ntmps54
    go_wp2_with (go_at_call 76; refine (H.out).mono ?_; rintro e w' ⟨rfl, rfl⟩)
    have HH := Lib.hid (HoldsU.made w (List.replicate m 0))
    have HB := Lib.hid ((Below.refl w.heap.size w).alloc (Nat.le_refl _) (.cells (us (List.replicate m 0)).toArray 34))
    generalize hWx : w.alloc (.cells (us (List.replicate m 0)).toArray 34) = wx at *
    clear hWx hmk
    go_loopw [22] (fun i wr => ∃ (k : Nat) (l : List Nat), k ≤ m ∧ i = .int .i64 k ∧ Hid (l.length = m) ∧ Hid (HoldsU wr w.heap.size l) ∧ Hid (Below w.heap.size w wr) ∧ Hid (∀ j, j < k → l.getD j 0 = f j)) (fun i _ => m - (intOf i).toNat)
    case atStart => exact ⟨0, List.replicate m 0, by omega, rfl, Lib.hid (by simp), HH, HB, Lib.hid (fun j hj => by omega)⟩
    case round =>
      obtain ⟨k, l, hk, rfl, Hl, HH, HB, Hv⟩ := hrel
      by_cases hlt : k < m
      · have HC := Lib.hid (HF.out k wr hlt H0.out HB.out)
        go_wp2_with (go_at_call 60; refine (HC.out).mono ?_; rintro e w3 ⟨rfl, hb3⟩; have HH3 := Lib.hid (HH.out.below hb3 HH.out.lt); have HB3 := Lib.hid (HB.out.trans (hb3.mono HB.out.size)); clear hb3; have hc := HH3.out.cell k (by have := Hl.out; omega); have hf := HH3.out.free k)
        go_roundw
        case rel =>
          have hs := set_replace m f k l Hl.out hlt Hv.out
          exact ⟨k + 1, l.set k (f k), by omega, by go_num, Lib.hid hs.1, Lib.hid (HH3.out.put k (f k)), Lib.hid (HB3.out.setCell (p := ⟨w.heap.size, k, none⟩) (Nat.le_refl _) _), Lib.hid hs.2⟩
        case measure => simp [intOf]; omega
      · have HE : Hid (l = (List.range m).map f) := Lib.hid (range_ext m f l Hl.out (fun j hj => Hv.out j (by omega)))
        go_wp2
        go_ret2
        refine Or.inl ⟨H0.out, ?_⟩
        have hl := HE.out
        subst hl
        refine ⟨some ⟨w.heap.size, 0, none⟩, m, ?_, HH.out.reads, HB.out⟩
        rw [List.length_map, List.length_range]; rfl
  · have HN := Lib.hid h0
    have hne : (twoErr R S != 0) = true := by simp [h0]
    generalize twoErr R S = x at *
    clear h0 HM
    go_enter Tryd.func54, Tryd.ntmps54
    go_wp2_with (go_at_call 76; refine (H.out).mono ?_; rintro e w' ⟨rfl, rfl⟩)
    go_ret2
    exact Or.inr ⟨HN.out, rfl, Below.refl _ _⟩
/-- the pairs that a step of R and then one of S lead through -/
def composeV (R S : List Nat) : List Nat := (List.range R.length).map (fun k => imgV S (R.getD k 0))
def unionV (R S : List Nat) : List Nat := (List.range R.length).map (fun k => R.getD k 0 ||| S.getD k 0)
def meetV (R S : List Nat) : List Nat := (List.range R.length).map (fun k => R.getD k 0 &&& S.getD k 0)
theorem twoErr_zero {R S : List Nat} (h : twoErr R S = 0) : R.length = S.length ∧ R.length ≤ 64 ∧ relErr R.length R = 0 ∧ relErr S.length S = 0 := by
  unfold twoErr at h
  split at h
  · contradiction
  · rename_i h1
    have h2 : relErr R.length R = 0 := by omega
    split at h
    · contradiction
    · rename_i h3
      have h4 : relErr S.length S = 0 := by omega
      split at h
      · cases h
      · rename_i h5
        have h6 := h2
        unfold relErr at h6
        split at h6
        · cases h6
        · exact ⟨by omega, by omega, h2, h4⟩
theorem Reads.word_k {w : World} {B n : Nat} {A : Option Addr} {l : List Nat} (h : Reads w B 1 A n (us l)) {k : Nat} (hk : k < n) :
    ∃ ad, A = some ad ∧ ad.block < B ∧ w.cell? (ad.add k) = some (.int .u64 ((l.getD k 0 : Nat) : Int)) := by
  obtain ⟨ad, x, hA, hb, _, hx, _, _, hc⟩ := h.word_at hk
  exact ⟨ad, hA, hb, by rw [hx]; exact hc⟩
set_option maxRecDepth 100000 in
set_option maxHeartbeats 2000000 in
theorem compose1_any (R S : List Nat) (A A2 : Option Addr) (m m2 c c2 B1 B2 k : Nat) (W : World) (hR : Reads W W.heap.size 1 A m (us R)) (hS : Reads W W.heap.size 1 A2 m2 (us S)) (hw : Words R) (hw2 : Words S) (hk : k < m) (hm2 : m2 ≤ 64) (_ : m ≤ 64) (hT : Tab W)
    (hc1 : W.cell? ⟨B1, 0, none⟩ = some (.slice A2 m2 c2)) (hc2 : W.cell? ⟨B2, 0, none⟩ = some (.slice A m c)) :
    Calls Tryd.prog 55 #[.int .i64 k, .pointer (some ⟨B1, 0, none⟩), .pointer (some ⟨B2, 0, none⟩)] W fun e W' => e = .returned (.int .u64 (imgV S (R.getD k 0) : Int)) ∧ Below W.heap.size W W' := by
  obtain ⟨ad, rfl, hb, hc⟩ := hR.word_k hk
  have HI := Lib.hid (fun q => image_any S A2 m2 c2 (R.getD k 0) (W.drewN q) (words_getD hw k) (hS.drewN q) hw2 hm2 hT)
  generalize R.getD k 0 = x at *
  generalize imgV S x = y at *
  clear hR hS hw hw2 hT
  have HI0 := Lib.hid (HI.out 0)
  have HI1 := Lib.hid (HI.out 1)
  rw [World.drewN_zero] at HI0
  rw [show W.drewN 1 = W.drew from rfl] at HI1
  go_enter Tryd.func55, Tryd.ntmps55
  go_wp2
  go_region_with (go_at_call 56; first | (refine (HI0.out).mono ?_; rintro e w3 ⟨rfl, hb3⟩) | (refine (HI1.out).mono ?_; rintro e w3 ⟨rfl, hb3⟩))
  all_goals go_wp2
  all_goals go_ret
  all_goals first
    | exact ⟨rfl, ((Below.refl W.heap.size W).drew).trans hb3⟩
    | exact ⟨rfl, hb3⟩
    | exact ⟨rfl, hb3.drew⟩
    | exact ⟨rfl, (((Below.refl W.heap.size W).drew).trans hb3).drew⟩
set_option maxRecDepth 100000 in
set_option maxHeartbeats 2000000 in
theorem union1_any (R S : List Nat) (A A2 : Option Addr) (m m2 c c2 B1 B2 k : Nat) (W : World) (hR : Reads W W.heap.size 1 A m (us R)) (hS : Reads W W.heap.size 1 A2 m2 (us S)) (hw : Words R) (hw2 : Words S) (hk : k < m) (hm2 : m = m2) (_ : m ≤ 64) (_ : Tab W)
    (hc1 : W.cell? ⟨B1, 0, none⟩ = some (.slice A m c)) (hc2 : W.cell? ⟨B2, 0, none⟩ = some (.slice A2 m2 c2)) :
    Calls Tryd.prog 59 #[.int .i64 k, .pointer (some ⟨B1, 0, none⟩), .pointer (some ⟨B2, 0, none⟩)] W fun e W' => e = .returned (.int .u64 ((R.getD k 0 ||| S.getD k 0 : Nat) : Int)) ∧ Below W.heap.size W W' := by
  subst hm2
  obtain ⟨ad, rfl, hb, hc⟩ := hR.word_k hk
  obtain ⟨ad2, rfl, hb2, hc3⟩ := hS.word_k hk
  have hor := u64_or_nat (R.getD k 0) (S.getD k 0) (words_getD hw k) (words_getD hw2 k)
  generalize R.getD k 0 = x at *
  generalize S.getD k 0 = y at *
  clear hR hS hw hw2
  go_enter Tryd.func59, Tryd.ntmps59
  go_wp2
  go_quiet (fail)
  go_wp2
  go_ret
  exact ⟨ret_u64 (by first | rfl | exact hor), below_drewN (Below.refl _ _) _⟩
set_option maxRecDepth 100000 in
set_option maxHeartbeats 2000000 in
theorem meet1_any (R S : List Nat) (A A2 : Option Addr) (m m2 c c2 B1 B2 k : Nat) (W : World) (hR : Reads W W.heap.size 1 A m (us R)) (hS : Reads W W.heap.size 1 A2 m2 (us S)) (hw : Words R) (hw2 : Words S) (hk : k < m) (hm2 : m = m2) (_ : m ≤ 64) (_ : Tab W)
    (hc1 : W.cell? ⟨B1, 0, none⟩ = some (.slice A m c)) (hc2 : W.cell? ⟨B2, 0, none⟩ = some (.slice A2 m2 c2)) :
    Calls Tryd.prog 60 #[.int .i64 k, .pointer (some ⟨B1, 0, none⟩), .pointer (some ⟨B2, 0, none⟩)] W fun e W' => e = .returned (.int .u64 ((R.getD k 0 &&& S.getD k 0 : Nat) : Int)) ∧ Below W.heap.size W W' := by
  subst hm2
  obtain ⟨ad, rfl, hb, hc⟩ := hR.word_k hk
  obtain ⟨ad2, rfl, hb2, hc3⟩ := hS.word_k hk
  have hor := u64_and_nat (R.getD k 0) (S.getD k 0) (words_getD hw k) (words_getD hw2 k)
  generalize R.getD k 0 = x at *
  generalize S.getD k 0 = y at *
  clear hR hS hw hw2
  go_enter Tryd.func60, Tryd.ntmps60
  go_wp2
  go_quiet (fail)
  go_wp2
  go_ret
  exact ⟨ret_u64 (by first | rfl | exact hor), below_drewN (Below.refl _ _) _⟩
set_option maxRecDepth 100000 in
set_option maxHeartbeats 2000000 in
theorem compose_any (R S : List Nat) (A A2 : Option Addr) (m m2 c c2 : Nat) (w : World) (hR : Reads w w.heap.size 1 A m (us R)) (hS : Reads w w.heap.size 1 A2 m2 (us S)) (hw : Words R) (hw2 : Words S) (hm : m ≤ maxLen) (hm2 : m2 ≤ maxLen) (hT : Tab w) :
    Calls Tryd.prog 17 #[.slice A m c, .slice A2 m2 c2] w fun e w' => (twoErr R S = 0 ∧ GivesR (composeV R S) w e w') ∨ (twoErr R S ≠ 0 ∧ GivesE (twoErr R S) w e w') := by
  have hmf : ∀ (fn : Fn) (first cap : Array Value) (w : World), (Instr.makeFunc fn first cap).run Tryd.prog w = .ok (.func fn first cap) w := fun _ _ _ _ => rfl
  have e1 := hR.word_len
  have e2 := hS.word_len
  have b0 := cell_new_l w (.slice A m c) 22
  have b1 := cell_new_l (w.alloc (.cells #[.slice A m c] 22)) (.slice A2 m2 c2) 22
  simp only [World.size_alloc] at b1
  have b0' := cell_alloc_l (.cells #[.slice A2 m2 c2] 22) b0.1
  have hB0 : Below w.heap.size w ((w.alloc (.cells #[.slice A m c] 22)).alloc (.cells #[.slice A2 m2 c2] 22)) := ((Below.refl _ w).alloc (Nat.le_refl _) _).alloc (by simp) _
  have hsz : ((w.alloc (.cells #[.slice A m c] 22)).alloc (.cells #[.slice A2 m2 c2] 22)).heap.size = w.heap.size + 2 := by simp
  have HV : Hid (composeV R S = (List.range m).map (fun k => imgV S (R.getD k 0))) := Lib.hid (by unfold composeV; rw [e1])
  generalize hx : (w.alloc (.cells #[.slice A m c] 22)).alloc (.cells #[.slice A2 m2 c2] 22) = wx at b1 b0' hB0 hsz
  have HC := Lib.hid (combine_compose R S (fun k => imgV S (R.getD k 0)) A A2 m m2 c c2 (w.heap.size + 1) (w.heap.size) wx ((hR.below hB0).more (by omega)) ((hS.below hB0).more (by omega)) hw hw2 hm hm2 (fun k W hk h0 hb => by
    have h64 := twoErr_zero h0
    have ht : Tab W := hT.below (hB0.trans (hb.mono (by omega)))
    have hle := hb.size
    exact compose1_any R S A A2 m m2 c c2 (w.heap.size + 1) (w.heap.size) k W (((hR.below hB0).more (by omega)).below hb |>.more hle) (((hS.below hB0).more (by omega)).below hb |>.more hle) hw hw2 hk (by omega) (by omega) ht ((hb.cell (p := ⟨w.heap.size + 1, 0, none⟩) (by simp only; omega)).trans b1.1) ((hb.cell (p := ⟨w.heap.size, 0, none⟩) (by simp only; omega)).trans b0')))
  have HB := Lib.hid hB0
  have b1' := b1.1
  clear hR hS hw hw2 hT e1 e2 b0 b1 hB0
  go_enter Tryd.func17, Tryd.ntmps17
  go_wp2_with fail
  refine (HC.out).mono ?_
  rintro e w3 (⟨h0, A3, c3, rfl, hR3, hb3⟩ | ⟨h0, rfl, hb3⟩)
  · go_wp2
    go_ret2
    refine Or.inl ⟨h0, A3, c3, ?_, ?_, ?_⟩
    · rw [HV.out, List.length_map, List.length_range]; rfl
    · rw [HV.out]; exact hR3
    · exact HB.out.trans (hb3.mono (by omega))
  · go_wp2
    go_ret2
    refine Or.inr ⟨h0, rfl, ?_⟩
    exact HB.out.trans (hb3.mono (by omega))
set_option maxRecDepth 100000 in
set_option maxHeartbeats 2000000 in
theorem union_any (R S : List Nat) (A A2 : Option Addr) (m m2 c c2 : Nat) (w : World) (hR : Reads w w.heap.size 1 A m (us R)) (hS : Reads w w.heap.size 1 A2 m2 (us S)) (hw : Words R) (hw2 : Words S) (hm : m ≤ maxLen) (hm2 : m2 ≤ maxLen) (hT : Tab w) :
    Calls Tryd.prog 20 #[.slice A m c, .slice A2 m2 c2] w fun e w' => (twoErr R S = 0 ∧ GivesR (unionV R S) w e w') ∨ (twoErr R S ≠ 0 ∧ GivesE (twoErr R S) w e w') := by
  have hmf : ∀ (fn : Fn) (first cap : Array Value) (w : World), (Instr.makeFunc fn first cap).run Tryd.prog w = .ok (.func fn first cap) w := fun _ _ _ _ => rfl
  have e1 := hR.word_len
  have e2 := hS.word_len
  have b0 := cell_new_l w (.slice A m c) 22
  have b1 := cell_new_l (w.alloc (.cells #[.slice A m c] 22)) (.slice A2 m2 c2) 22
  simp only [World.size_alloc] at b1
  have b0' := cell_alloc_l (.cells #[.slice A2 m2 c2] 22) b0.1
  have hB0 : Below w.heap.size w ((w.alloc (.cells #[.slice A m c] 22)).alloc (.cells #[.slice A2 m2 c2] 22)) := ((Below.refl _ w).alloc (Nat.le_refl _) _).alloc (by simp) _
  have hsz : ((w.alloc (.cells #[.slice A m c] 22)).alloc (.cells #[.slice A2 m2 c2] 22)).heap.size = w.heap.size + 2 := by simp
  have HV : Hid (unionV R S = (List.range m).map (fun k => R.getD k 0 ||| S.getD k 0)) := Lib.hid (by unfold unionV; rw [e1])
  generalize hx : (w.alloc (.cells #[.slice A m c] 22)).alloc (.cells #[.slice A2 m2 c2] 22) = wx at b1 b0' hB0 hsz
  have HC := Lib.hid (combine_union R S (fun k => R.getD k 0 ||| S.getD k 0) A A2 m m2 c c2 (w.heap.size) (w.heap.size + 1) wx ((hR.below hB0).more (by omega)) ((hS.below hB0).more (by omega)) hw hw2 hm hm2 (fun k W hk h0 hb => by
    have h64 := twoErr_zero h0
    have ht : Tab W := hT.below (hB0.trans (hb.mono (by omega)))
    have hle := hb.size
    exact union1_any R S A A2 m m2 c c2 (w.heap.size) (w.heap.size + 1) k W (((hR.below hB0).more (by omega)).below hb |>.more hle) (((hS.below hB0).more (by omega)).below hb |>.more hle) hw hw2 hk (by omega) (by omega) ht ((hb.cell (p := ⟨w.heap.size, 0, none⟩) (by simp only; omega)).trans b0') ((hb.cell (p := ⟨w.heap.size + 1, 0, none⟩) (by simp only; omega)).trans b1.1)))
  have HB := Lib.hid hB0
  have b1' := b1.1
  clear hR hS hw hw2 hT e1 e2 b0 b1 hB0
  go_enter Tryd.func20, Tryd.ntmps20
  go_wp2_with fail
  refine (HC.out).mono ?_
  rintro e w3 (⟨h0, A3, c3, rfl, hR3, hb3⟩ | ⟨h0, rfl, hb3⟩)
  · go_wp2
    go_ret2
    refine Or.inl ⟨h0, A3, c3, ?_, ?_, ?_⟩
    · rw [HV.out, List.length_map, List.length_range]; rfl
    · rw [HV.out]; exact hR3
    · exact HB.out.trans (hb3.mono (by omega))
  · go_wp2
    go_ret2
    refine Or.inr ⟨h0, rfl, ?_⟩
    exact HB.out.trans (hb3.mono (by omega))
set_option maxRecDepth 100000 in
set_option maxHeartbeats 2000000 in
theorem meet_any (R S : List Nat) (A A2 : Option Addr) (m m2 c c2 : Nat) (w : World) (hR : Reads w w.heap.size 1 A m (us R)) (hS : Reads w w.heap.size 1 A2 m2 (us S)) (hw : Words R) (hw2 : Words S) (hm : m ≤ maxLen) (hm2 : m2 ≤ maxLen) (hT : Tab w) :
    Calls Tryd.prog 22 #[.slice A m c, .slice A2 m2 c2] w fun e w' => (twoErr R S = 0 ∧ GivesR (meetV R S) w e w') ∨ (twoErr R S ≠ 0 ∧ GivesE (twoErr R S) w e w') := by
  have hmf : ∀ (fn : Fn) (first cap : Array Value) (w : World), (Instr.makeFunc fn first cap).run Tryd.prog w = .ok (.func fn first cap) w := fun _ _ _ _ => rfl
  have e1 := hR.word_len
  have e2 := hS.word_len
  have b0 := cell_new_l w (.slice A m c) 22
  have b1 := cell_new_l (w.alloc (.cells #[.slice A m c] 22)) (.slice A2 m2 c2) 22
  simp only [World.size_alloc] at b1
  have b0' := cell_alloc_l (.cells #[.slice A2 m2 c2] 22) b0.1
  have hB0 : Below w.heap.size w ((w.alloc (.cells #[.slice A m c] 22)).alloc (.cells #[.slice A2 m2 c2] 22)) := ((Below.refl _ w).alloc (Nat.le_refl _) _).alloc (by simp) _
  have hsz : ((w.alloc (.cells #[.slice A m c] 22)).alloc (.cells #[.slice A2 m2 c2] 22)).heap.size = w.heap.size + 2 := by simp
  have HV : Hid (meetV R S = (List.range m).map (fun k => R.getD k 0 &&& S.getD k 0)) := Lib.hid (by unfold meetV; rw [e1])
  generalize hx : (w.alloc (.cells #[.slice A m c] 22)).alloc (.cells #[.slice A2 m2 c2] 22) = wx at b1 b0' hB0 hsz
  have HC := Lib.hid (combine_meet R S (fun k => R.getD k 0 &&& S.getD k 0) A A2 m m2 c c2 (w.heap.size) (w.heap.size + 1) wx ((hR.below hB0).more (by omega)) ((hS.below hB0).more (by omega)) hw hw2 hm hm2 (fun k W hk h0 hb => by
    have h64 := twoErr_zero h0
    have ht : Tab W := hT.below (hB0.trans (hb.mono (by omega)))
    have hle := hb.size
    exact meet1_any R S A A2 m m2 c c2 (w.heap.size) (w.heap.size + 1) k W (((hR.below hB0).more (by omega)).below hb |>.more hle) (((hS.below hB0).more (by omega)).below hb |>.more hle) hw hw2 hk (by omega) (by omega) ht ((hb.cell (p := ⟨w.heap.size, 0, none⟩) (by simp only; omega)).trans b0') ((hb.cell (p := ⟨w.heap.size + 1, 0, none⟩) (by simp only; omega)).trans b1.1)))
  have HB := Lib.hid hB0
  have b1' := b1.1
  clear hR hS hw hw2 hT e1 e2 b0 b1 hB0
  go_enter Tryd.func22, Tryd.ntmps22
  go_wp2_with fail
  refine (HC.out).mono ?_
  rintro e w3 (⟨h0, A3, c3, rfl, hR3, hb3⟩ | ⟨h0, rfl, hb3⟩)
  · go_wp2
    go_ret2
    refine Or.inl ⟨h0, A3, c3, ?_, ?_, ?_⟩
    · rw [HV.out, List.length_map, List.length_range]; rfl
    · rw [HV.out]; exact hR3
    · exact HB.out.trans (hb3.mono (by omega))
  · go_wp2
    go_ret2
    refine Or.inr ⟨h0, rfl, ?_⟩
    exact HB.out.trans (hb3.mono (by omega))
end Go.Proofs.YtogjbghieoifjaaDoor
