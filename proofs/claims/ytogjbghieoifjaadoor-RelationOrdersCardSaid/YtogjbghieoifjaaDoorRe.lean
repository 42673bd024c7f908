/- Contracts of layer 2's reference: composition, union, meet, converse. -/
import Derived.Test.YtogjbghieoifjaaDoorRd
namespace Go.Proofs.YtogjbghieoifjaaDoor
open Go.RowKit Go.Proofs.Ws
/-- a list of f's values where p says so, and of g's elsewhere -/
def mixL (p : Nat → Bool) (f g : Nat → Nat) (m : Nat) : List Nat := (List.range m).map (fun v => if p v then f v else g v)
theorem mixL_length (p : Nat → Bool) (f g : Nat → Nat) (m : Nat) : (mixL p f g m).length = m := by simp [mixL]
theorem mixL_getD (p : Nat → Bool) (f g : Nat → Nat) (m v : Nat) (h : v < m) : (mixL p f g m).getD v 0 = if p v then f v else g v := by
  rw [List.getD_eq_getElem?_getD, mixL, List.getElem?_map, List.getElem?_range h]; rfl
theorem mixL_congr {p p' : Nat → Bool} {f g f' g' : Nat → Nat} {m : Nat} (h : ∀ v, v < m → (if p v then f v else g v) = if p' v then f' v else g' v) : mixL p f g m = mixL p' f' g' m := by
  unfold mixL
  apply List.map_congr_left
  intro v hv
  exact h v (List.mem_range.1 hv)
theorem mixL_set (p p' : Nat → Bool) (f g : Nat → Nat) (m v x : Nat) (hx : (if p' v then f v else g v) = x) (hp : ∀ j, j ≠ v → p' j = p j) : (mixL p f g m).set v x = mixL p' f g m := by
  apply List.ext_getElem
  · simp [mixL]
  · intro i h1 h2
    rw [List.getElem_set]
    by_cases e : v = i
    · subst e; rw [if_pos rfl]; simp [mixL, hx]
    · rw [if_neg e]; simp [mixL, hp i (fun h => e h.symm)]
theorem mixL_set0 (p : Nat → Bool) (f g : Nat → Nat) (m v : Nat) : (mixL p f g m).set v (if p v then f v else g v) = mixL p f g m :=
  mixL_set p p f g m v _ rfl (fun _ _ => rfl)
theorem mixL_start (p : Nat → Bool) (f g : Nat → Nat) (m : Nat) (h : ∀ v, p v = false) (hg : ∀ v, v < m → g v = 0) : mixL p f g m = List.replicate m 0 := by
  apply List.ext_getElem
  · simp [mixL]
  · intro i h1 h2
    simp [mixL, h]
    exact hg i (by simpa [mixL] using h1)
theorem mixL_done (p : Nat → Bool) (f g : Nat → Nat) (m : Nat) (h : ∀ v, v < m → p v = true) : mixL p f g m = (List.range m).map f := by
  unfold mixL
  apply List.map_congr_left
  intro v hv
  rw [if_pos (h v (List.mem_range.1 hv))]
theorem Tab.drewN' {w : World} (h : Tab w) (q : Nat) : Tab (w.drewN q) := h
set_option maxRecDepth 100000 in
set_option maxHeartbeats 2000000 in
theorem refUnion_any (R S : List Nat) (A A2 : Option Addr) (m m2 c c2 : Nat) (w : World) (hR : Reads w w.heap.size 1 A m (us R)) (hS : Reads w w.heap.size 1 A2 m2 (us S)) (hw : Words R) (hw2 : Words S) (hm : m ≤ maxLen) (hm2 : m2 ≤ maxLen) :
    Calls Tryd.prog 21 #[.slice A m c, .slice A2 m2 c2] w fun e w' => (twoErr R S = 0 ∧ GivesR (unionV R S) w e w') ∨ (twoErr R S ≠ 0 ∧ GivesE (twoErr R S) w e w') := by
  have e1 := hR.word_len
  have e2 := hS.word_len
  have H := Lib.hid (two_any R S A A2 m c m2 c2 _ w hR hS hw hw2 hm hm2)
  have HR := Lib.hid hR
  have HS := Lib.hid hS
  by_cases h0 : twoErr R S = 0
  · have h64 := twoErr_zero h0
    have hm64 : m ≤ 64 := by omega
    have hmm : m2 = m := by omega
    subst hmm
    rw [h0] at H
    have HV : Hid (unionV R S = (List.range m2).map (fun k => R.getD k 0 ||| S.getD k 0)) := Lib.hid (by unfold unionV; rw [e1])
    have HO := Lib.hid (fun k => u64_or_nat (R.getD k 0) (S.getD k 0) (words_getD hw k) (words_getD hw2 k))
    have H0 := Lib.hid h0
    have hmk := fun W => makeU W m2 (by omega)
    clear h0 hR hS hw hw2 e1 e2 h64
    go_enter Tryd.func21, Tryd.ntmps21
    go_wp2_with fail
    refine (H.out).mono ?_
    rintro e w1 ⟨rfl, ⟨q, rfl⟩⟩
    have HB0 : Hid (Below w.heap.size w (w.drewN q)) := Lib.hid (below_drewN (Below.refl _ _) _)
    have hsz : (w.drewN q).heap.size = w.heap.size := rfl
    generalize hw1 : w.drewN q = w1 at *
    clear hw1
    have HH := Lib.hid (HoldsU.made w1 (List.replicate m2 0))
    rw [hsz] at HH
    have HB := Lib.hid (HB0.out.alloc (Nat.le_of_eq hsz.symm) (.cells (us (List.replicate m2 0)).toArray 34))
    go_wp2
    try simp only [hsz]
    generalize hWx : w1.alloc (.cells (us (List.replicate m2 0)).toArray 34) = wx at *
    clear hWx hmk HB0 hsz
    go_loopw [8] (fun i wr => ∃ k : Nat, k ≤ m2 ∧ i = .int .i64 k ∧ Hid (HoldsU wr w.heap.size (mixL (fun j => decide (j < k)) (fun k => R.getD k 0 ||| S.getD k 0) (fun _ => 0) m2)) ∧ Hid (Below w.heap.size w wr)) (fun i _ => m2 - (intOf i).toNat)
    case atStart => exact ⟨0, by omega, rfl, by rw [mixL_start _ _ _ _ (by simp) (by simp)]; exact HH, HB⟩
    case round =>
      clear HH HB
      obtain ⟨k, hk, rfl, HH, HB⟩ := hrel
      by_cases hlt : k < m2
      · obtain ⟨ad, rfl, hb, hc⟩ := (HR.out.below HB.out).word_k hlt
        obtain ⟨ad2, rfl, hb2, hc2⟩ := (HS.out.below HB.out).word_k hlt
        have hO := HO.out k
        have hcz := HH.out.cell k (by rw [mixL_length]; exact hlt)
        have hf := HH.out.free k
        have HP : Hid (∀ u : Nat, u = R.getD k 0 ||| S.getD k 0 → HoldsU (wr.setCell ⟨w.heap.size, k, none⟩ (.int .u64 (u : Int))) w.heap.size (mixL (fun j => decide (j < k + 1)) (fun k => R.getD k 0 ||| S.getD k 0) (fun _ => 0) m2)) := Lib.hid (fun u hu => by
          rw [← mixL_set (fun j => decide (j < k)) (fun j => decide (j < k + 1)) _ _ m2 k u (by simp [hu]) (fun j hj => decide_eq_decide.2 (by omega))]
          exact HH.out.put k u)
        have HBx := Lib.hid (fun u => HB.out.setCell (p := ⟨w.heap.size, k, none⟩) (Nat.le_refl _) u)
        generalize R.getD k 0 = x at *
        generalize S.getD k 0 = y at *
        go_wp2
        go_region
        all_goals go_wp2
        all_goals go_roundw
        case rel => exact ⟨k + 1, by omega, by go_num, Lib.hid (HP.out _ rfl), Lib.hid (HBx.out _).drew⟩
        case measure => simp [intOf]; omega
      · have HE := Lib.hid (mixL_done (fun j => decide (j < k)) (fun k => R.getD k 0 ||| S.getD k 0) (fun _ => 0) m2 (fun v hv => by simp; omega))
        go_wp2
        go_ret2
        refine Or.inl ⟨H0.out, some ⟨w.heap.size, 0, none⟩, m2, ?_, ?_, HB.out⟩
        · rw [HV.out, List.length_map, List.length_range]; rfl
        · rw [HV.out, ← HE.out]; exact HH.out.reads
  · have HN := Lib.hid h0
    have hne : (twoErr R S != 0) = true := by simp [h0]
    generalize twoErr R S = x at *
    clear h0 hR hS hw hw2 e1 e2
    go_enter Tryd.func21, Tryd.ntmps21
    go_wp2_with fail
    refine (H.out).mono ?_
    rintro e w1 ⟨rfl, ⟨q, rfl⟩⟩
    go_wp2
    go_ret2
    exact Or.inr ⟨HN.out, rfl, below_drewN (Below.refl _ _) _⟩
set_option maxRecDepth 100000 in
set_option maxHeartbeats 2000000 in
theorem refMeet_any (R S : List Nat) (A A2 : Option Addr) (m m2 c c2 : Nat) (w : World) (hR : Reads w w.heap.size 1 A m (us R)) (hS : Reads w w.heap.size 1 A2 m2 (us S)) (hw : Words R) (hw2 : Words S) (hm : m ≤ maxLen) (hm2 : m2 ≤ maxLen) :
    Calls Tryd.prog 23 #[.slice A m c, .slice A2 m2 c2] w fun e w' => (twoErr R S = 0 ∧ GivesR (meetV R S) w e w') ∨ (twoErr R S ≠ 0 ∧ GivesE (twoErr R S) w e w') := by
  have e1 := hR.word_len
  have e2 := hS.word_len
  have H := Lib.hid (two_any R S A A2 m c m2 c2 _ w hR hS hw hw2 hm hm2)
  have HR := Lib.hid hR
  have HS := Lib.hid hS
  by_cases h0 : twoErr R S = 0
  · have h64 := twoErr_zero h0
    have hm64 : m ≤ 64 := by omega
    have hmm : m2 = m := by omega
    subst hmm
    rw [h0] at H
    have HV : Hid (meetV R S = (List.range m2).map (fun k => R.getD k 0 &&& S.getD k 0)) := Lib.hid (by unfold meetV; rw [e1])
    have HO := Lib.hid (fun k => u64_and_nat (R.getD k 0) (S.getD k 0) (words_getD hw k) (words_getD hw2 k))
    have H0 := Lib.hid h0
    have hmk := fun W => makeU W m2 (by omega)
    clear h0 hR hS hw hw2 e1 e2 h64
    go_enter Tryd.func23, Tryd.ntmps23
    go_wp2_with fail
    refine (H.out).mono ?_
    rintro e w1 ⟨rfl, ⟨q, rfl⟩⟩
    have HB0 : Hid (Below w.heap.size w (w.drewN q)) := Lib.hid (below_drewN (Below.refl _ _) _)
    have hsz : (w.drewN q).heap.size = w.heap.size := rfl
    generalize hw1 : w.drewN q = w1 at *
    clear hw1
    have HH := Lib.hid (HoldsU.made w1 (List.replicate m2 0))
    rw [hsz] at HH
    have HB := Lib.hid (HB0.out.alloc (Nat.le_of_eq hsz.symm) (.cells (us (List.replicate m2 0)).toArray 34))
    go_wp2
    try simp only [hsz]
    generalize hWx : w1.alloc (.cells (us (List.replicate m2 0)).toArray 34) = wx at *
    clear hWx hmk HB0 hsz
    go_loopw [8] (fun i wr => ∃ k : Nat, k ≤ m2 ∧ i = .int .i64 k ∧ Hid (HoldsU wr w.heap.size (mixL (fun j => decide (j < k)) (fun k => R.getD k 0 &&& S.getD k 0) (fun _ => 0) m2)) ∧ Hid (Below w.heap.size w wr)) (fun i _ => m2 - (intOf i).toNat)
    case atStart => exact ⟨0, by omega, rfl, by rw [mixL_start _ _ _ _ (by simp) (by simp)]; exact HH, HB⟩
    case round =>
      clear HH HB
      obtain ⟨k, hk, rfl, HH, HB⟩ := hrel
      by_cases hlt : k < m2
      · obtain ⟨ad, rfl, hb, hc⟩ := (HR.out.below HB.out).word_k hlt
        obtain ⟨ad2, rfl, hb2, hc2⟩ := (HS.out.below HB.out).word_k hlt
        have hO := HO.out k
        have hcz := HH.out.cell k (by rw [mixL_length]; exact hlt)
        have hf := HH.out.free k
        have HP : Hid (∀ u : Nat, u = R.getD k 0 &&& S.getD k 0 → HoldsU (wr.setCell ⟨w.heap.size, k, none⟩ (.int .u64 (u : Int))) w.heap.size (mixL (fun j => decide (j < k + 1)) (fun k => R.getD k 0 &&& S.getD k 0) (fun _ => 0) m2)) := Lib.hid (fun u hu => by
          rw [← mixL_set (fun j => decide (j < k)) (fun j => decide (j < k + 1)) _ _ m2 k u (by simp [hu]) (fun j hj => decide_eq_decide.2 (by omega))]
          exact HH.out.put k u)
        have HBx := Lib.hid (fun u => HB.out.setCell (p := ⟨w.heap.size, k, none⟩) (Nat.le_refl _) u)
        generalize R.getD k 0 = x at *
        generalize S.getD k 0 = y at *
        go_wp2
        go_region
        all_goals go_wp2
        all_goals go_roundw
        case rel => exact ⟨k + 1, by omega, by go_num, Lib.hid (HP.out _ rfl), Lib.hid (HBx.out _).drew⟩
        case measure => simp [intOf]; omega
      · have HE := Lib.hid (mixL_done (fun j => decide (j < k)) (fun k => R.getD k 0 &&& S.getD k 0) (fun _ => 0) m2 (fun v hv => by simp; omega))
        go_wp2
        go_ret2
        refine Or.inl ⟨H0.out, some ⟨w.heap.size, 0, none⟩, m2, ?_, ?_, HB.out⟩
        · rw [HV.out, List.length_map, List.length_range]; rfl
        · rw [HV.out, ← HE.out]; exact HH.out.reads
  · have HN := Lib.hid h0
    have hne : (twoErr R S != 0) = true := by simp [h0]
    generalize twoErr R S = x at *
    clear h0 hR hS hw hw2 e1 e2
    go_enter Tryd.func23, Tryd.ntmps23
    go_wp2_with fail
    refine (H.out).mono ?_
    rintro e w1 ⟨rfl, ⟨q, rfl⟩⟩
    go_wp2
    go_ret2
    exact Or.inr ⟨HN.out, rfl, below_drewN (Below.refl _ _) _⟩
set_option maxRecDepth 100000 in
set_option maxHeartbeats 4000000 in
theorem refCompose_any (R S : List Nat) (A A2 : Option Addr) (m m2 c c2 : Nat) (w : World) (hR : Reads w w.heap.size 1 A m (us R)) (hS : Reads w w.heap.size 1 A2 m2 (us S)) (hw : Words R) (hw2 : Words S) (hm : m ≤ maxLen) (hm2 : m2 ≤ maxLen) :
    Calls Tryd.prog 18 #[.slice A m c, .slice A2 m2 c2] w fun e w' => (twoErr R S = 0 ∧ GivesR (composeV R S) w e w') ∨ (twoErr R S ≠ 0 ∧ GivesE (twoErr R S) w e w') := by
  have e1 := hR.word_len
  have e2 := hS.word_len
  have H := Lib.hid (two_any R S A A2 m c m2 c2 _ w hR hS hw hw2 hm hm2)
  have HR := Lib.hid hR
  have HS := Lib.hid hS
  by_cases h0 : twoErr R S = 0
  · have h64 := twoErr_zero h0
    have hm64 : m ≤ 64 := by omega
    have hmm : m2 = m := by omega
    subst hmm
    rw [h0] at H
    have HV : Hid (composeV R S = (List.range m2).map (fun k => imgV S (R.getD k 0))) := Lib.hid (by unfold composeV; rw [e1])
    have HI : Hid (∀ x, imgU S x m2 = imgV S x) := Lib.hid (fun x => by rw [← imgU_img S x (by omega), e2])
    have HW := Lib.hid hw
    have HW2 := Lib.hid hw2
    have H0 := Lib.hid h0
    have hmk := fun W => makeU W m2 (by omega)
    clear h0 hR hS hw hw2 e1 e2 h64
    go_enter Tryd.func18, Tryd.ntmps18
    go_wp2_with fail
    refine (H.out).mono ?_
    rintro e w1 ⟨rfl, ⟨q, rfl⟩⟩
    have HB0 : Hid (Below w.heap.size w (w.drewN q)) := Lib.hid (below_drewN (Below.refl _ _) _)
    have hsz : (w.drewN q).heap.size = w.heap.size := rfl
    generalize hw1 : w.drewN q = w1 at *
    clear hw1
    have HH := Lib.hid (HoldsU.made w1 (List.replicate m2 0))
    rw [hsz] at HH
    have HB := Lib.hid (HB0.out.alloc (Nat.le_of_eq hsz.symm) (.cells (us (List.replicate m2 0)).toArray 34))
    go_wp2
    try simp only [hsz]
    generalize hWx : w1.alloc (.cells (us (List.replicate m2 0)).toArray 34) = wx at *
    clear hWx hmk HB0 hsz
    go_loopw [8] (fun i wr => ∃ k : Nat, k ≤ m2 ∧ i = .int .i64 k ∧ Hid (HoldsU wr w.heap.size (mixL (fun j => decide (j < k)) (fun k => imgV S (R.getD k 0)) (fun _ => 0) m2)) ∧ Hid (Below w.heap.size w wr)) (fun i _ => m2 - (intOf i).toNat)
    case atStart => exact ⟨0, by omega, rfl, by rw [mixL_start _ _ _ _ (by simp) (by simp)]; exact HH, HB⟩
    case round =>
      clear HH HB
      obtain ⟨k, hk, rfl, HH, HB⟩ := hrel
      by_cases hlt : k < m2
      · obtain ⟨x, hx⟩ : ∃ x, x = R.getD k 0 := ⟨_, rfl⟩
        have hxw : x < 18446744073709551616 := by rw [hx]; exact words_getD HW.out k
        have HX := Lib.hid hx
        obtain ⟨L, hL⟩ : ∃ L, L = mixL (fun j => decide (j < k)) (fun k => imgV S (R.getD k 0)) (fun _ => 0) m2 := ⟨_, rfl⟩
        have HL := Lib.hid hL
        have HLL : Hid (L.length = m2) := Lib.hid (by rw [hL, mixL_length])
        have HL0 : Hid (L.set k 0 = L) := Lib.hid (by
          have := mixL_set0 (fun j => decide (j < k)) (fun k => imgV S (R.getD k 0)) (fun _ => 0) m2 k
          rw [← hL] at this
          simpa using this)
        rw [← hL] at HH
        clear hx hL
        go_wp2
        go_loopw [9] (fun i wr => ∃ u : Nat, u ≤ m2 ∧ i = .int .i64 u ∧ Hid (HoldsU wr w.heap.size (L.set k (imgU S x u))) ∧ Hid (Below w.heap.size w wr)) (fun i _ => m2 - (intOf i).toNat)
        case atStart => exact ⟨0, by omega, rfl, by rw [show imgU S x 0 = 0 from rfl, HL0.out]; exact HH, HB⟩
        case round =>
          clear HH HB
          obtain ⟨u, hu, rfl, HH, HB⟩ := hrel
          by_cases hul : u < m2
          · obtain ⟨ad, rfl, hb, hc⟩ := (HR.out.below HB.out).word_k hlt
            rw [← HX.out] at hc
            obtain ⟨y, hy⟩ : ∃ y, y = S.getD u 0 := ⟨_, rfl⟩
            obtain ⟨ad2, rfl, hb2, hc2⟩ := (HS.out.below HB.out).word_k hul
            rw [← hy] at hc2
            have HIN := Lib.hid (in_any x u wr hxw (by omega))
            have hcz := HH.out.cell k (by rw [List.length_set, HLL.out]; exact hlt)
            rw [show (L.set k (imgU S x u)).getD k 0 = imgU S x u from by rw [List.getD_eq_getElem?_getD, List.getElem?_set, if_pos rfl, if_pos (by rw [HLL.out]; exact hlt)]; rfl] at hcz
            have hf := HH.out.free k
            have hiw := imgU_lt HW2.out x u
            have hyw : y < 18446744073709551616 := by rw [hy]; exact words_getD HW2.out u
            by_cases hbit : x.testBit u = true
            · have HP : Hid (HoldsU (wr.setCell ⟨w.heap.size, k, none⟩ (.int .u64 (imgU S x (u + 1) : Int))) w.heap.size (L.set k (imgU S x (u + 1)))) := Lib.hid (by
                have := HH.out.put k (imgU S x (u + 1))
                rwa [List.set_set] at this)
              have hor : bits .or .u64 (imgU S x u : Int) (y : Int) = (imgU S x (u + 1) : Int) := by
                rw [u64_or_nat _ _ hiw hyw, imgU_succ, if_pos hbit, hy]
              have HBx := Lib.hid (HB.out.setCell (p := ⟨w.heap.size, k, none⟩) (Nat.le_refl _) (.int .u64 (imgU S x (u + 1) : Int)))
              rw [hbit] at HIN
              generalize ht2 : imgU S x (u + 1) = t2 at *
              have HT2 := Lib.hid ht2
              clear ht2
              generalize imgU S x u = t1 at *
              clear hbit hy
              go_wp2_with (go_at_call 58; refine (HIN.out).mono ?_; rintro e w' ⟨rfl, rfl⟩)
              go_region
              all_goals go_wp2
              all_goals go_roundw
              case rel => exact ⟨u + 1, by omega, by go_num, Lib.hid (by rw [HT2.out]; exact HP.out), Lib.hid HBx.out.drew⟩
              case measure => simp [intOf]; omega
            · have hbit' : x.testBit u = false := by simpa using hbit
              have HE : Hid (imgU S x (u + 1) = imgU S x u) := Lib.hid (by rw [imgU_succ, if_neg hbit])
              rw [hbit'] at HIN
              clear hbit hbit' hy
              go_wp2_with (go_at_call 58; refine (HIN.out).mono ?_; rintro e w' ⟨rfl, rfl⟩)
              go_roundw
              case rel => exact ⟨u + 1, by omega, by go_num, by rw [HE.out]; exact HH, HB⟩
              case measure => simp [intOf]; omega
          · have hue : u = m2 := by omega
            subst hue
            have HP : Hid (HoldsU wr w.heap.size (mixL (fun j => decide (j < k + 1)) (fun k => imgV S (R.getD k 0)) (fun _ => 0) u)) := Lib.hid (by
              have := HH.out
              rw [HI.out, HL.out, mixL_set (fun j => decide (j < k)) (fun j => decide (j < k + 1)) _ _ u k _ (by simp [HX.out]) (fun j hj => decide_eq_decide.2 (by omega))] at this
              exact this)
            go_wp2
            go_roundw
            case rel => exact ⟨k + 1, by omega, by go_num, HP, HB⟩
            case measure => simp [intOf]; omega
      · have HE := Lib.hid (mixL_done (fun j => decide (j < k)) (fun k => imgV S (R.getD k 0)) (fun _ => 0) m2 (fun v hv => by simp; omega))
        go_wp2
        go_ret2
        refine Or.inl ⟨H0.out, some ⟨w.heap.size, 0, none⟩, m2, ?_, ?_, HB.out⟩
        · rw [HV.out, List.length_map, List.length_range]; rfl
        · rw [HV.out, ← HE.out]; exact HH.out.reads
  · have HN := Lib.hid h0
    have hne : (twoErr R S != 0) = true := by simp [h0]
    generalize twoErr R S = x at *
    clear h0 hR hS hw hw2 e1 e2
    go_enter Tryd.func18, Tryd.ntmps18
    go_wp2_with fail
    refine (H.out).mono ?_
    rintro e w1 ⟨rfl, ⟨q, rfl⟩⟩
    go_wp2
    go_ret2
    exact Or.inr ⟨HN.out, rfl, below_drewN (Below.refl _ _) _⟩
end Go.Proofs.YtogjbghieoifjaaDoor
