/- Layer 5: the constructors of the program. -/
import Derived.Test.YtcbmncafmofcpaaMi
namespace Go.Proofs.Ytcbmncafmofcpaa
open Go.RowKit Go.Proofs.Ws Go.Maps
theorem shiftN_ops {s k : Nat} {n : Nd} (h : opsOk n k) : opsOk (shiftN s n) (s + k) := by
  obtain ⟨h1, h2⟩ := h
  unfold opsOk shiftN
  dsimp only
  constructor
  · by_cases hx : usesX n.op = true
    · rw [if_pos hx] at h1 ⊢
      rw [if_pos hx]; omega
    · rw [if_neg hx] at h1 ⊢
      rw [if_neg hx]; exact h1
  · by_cases hy : usesY n.op = true
    · rw [if_pos hy] at h2 ⊢
      rw [if_pos hy]; omega
    · rw [if_neg hy] at h2 ⊢
      rw [if_neg hy]; exact h2
theorem catK_ok (fs : List (List Nd)) (h : ∀ f ∈ fs, fErr f = 0) : ∀ k, k ≤ fs.length → opsL (catK fs k) ∧ (∀ n ∈ catK fs k, fldOk n) ∧ (catK fs k).length ≤ 200 * k := by
  intro k
  induction k with
  | zero => intro _; exact ⟨fun i hi => absurd hi (by simp [catK, catS]), fun n hn => absurd hn (by simp [catK, catS]), by simp [catK, catS]⟩
  | succ k ih =>
    intro hk
    obtain ⟨i1, i2, i3⟩ := ih (by omega)
    have hz : fErr (fs.getD k []) = 0 := by
      rw [show fs.getD k [] = fs[k] from by simp [show k < fs.length by omega]]
      exact h _ (List.getElem_mem _)
    rw [catK_succ fs k (by omega)]
    have h2 := (fErr_ok hz).2.1
    have hf := fErr_fld hz
    have ho := fErr_ops hz
    generalize fs.getD k [] = f at *
    generalize catK fs k = l at *
    refine ⟨fun i hi => ?_, fun n hn => ?_, by rw [List.length_append, List.length_map]; omega⟩
    · rw [List.length_append, List.length_map] at hi
      by_cases e : i < l.length
      · rw [List.getD_eq_getElem?_getD, List.getElem?_append_left e, ← List.getD_eq_getElem?_getD]
        exact i1 i e
      · have hi2 : i - l.length < f.length := by omega
        have e2 : (l ++ f.map (shiftN l.length)).getD i nd0 = shiftN l.length (f.getD (i - l.length) nd0) := by
          rw [List.getD_eq_getElem?_getD, List.getElem?_append_right (by omega), List.getElem?_map]
          simp [hi2]
        rw [e2]
        have := shiftN_ops (s := l.length) (ho (i - l.length) hi2)
        rw [show l.length + (i - l.length) = i from by omega] at this
        exact this
    · rcases List.mem_append.1 hn with hn | hn
      · exact i2 n hn
      · obtain ⟨m, hm, rfl⟩ := List.mem_map.1 hn
        exact hf m hm
theorem snoc_ok {l : List Nd} {n : Nd} (h1 : opsL l) (h2 : ∀ m ∈ l, fldOk m) (hn : opsOk n l.length) (hf : fldOk n) : OkL (l ++ [n]) := by
  have hlen : (l ++ [n]).length = l.length + 1 := by simp
  have key : ∀ i, i < (l ++ [n]).length → opsOk ((l ++ [n]).getD i nd0) i ∧ fldOk ((l ++ [n]).getD i nd0) := by
    intro i hi
    by_cases e : i < l.length
    · rw [List.getD_eq_getElem?_getD, List.getElem?_append_left e, ← List.getD_eq_getElem?_getD]
      exact ⟨h1 i e, h2 _ (getD_mem e)⟩
    · have e2 : i = l.length := by omega
      subst e2
      rw [getD_some (n := n) (by simp)]
      exact ⟨hn, hf⟩
  exact ⟨by simp, fun i hi => (key i hi).1, fun i hi => NdR_of ((nodeErr_iff _ i).2 (key i hi))⟩
theorem catK_1 (f : List Nd) : (catK [f] 1).length = f.length := by simp [catK, catS]
theorem catK_2 (f g : List Nd) : (catK [f, g] 2).length = f.length + g.length := by simp [catK, catS]
theorem fin_0 (n : Nd) (hk : known n.op = true) (hz : (n.op = 3 ∨ hasAgent n.op = true ∨ n.op = 17 ∨ n.i = 0) ∧ (n.op = 17 ∨ n.e = 0) ∧ (hasGroup n.op = true ∨ n.g = 0)) (hx : n.x = 0) (hy : n.y = 0) (hux : usesX n.op = false) (huy : usesY n.op = false) :
    rangeOk n = true → (∀ f ∈ ([] : List (List Nd)), fErr f = 0) → OkL (catK [] ([] : List (List Nd)).length ++ [lastN n []]) ∧ (catK [] ([] : List (List Nd)).length ++ [lastN n []]).length ≤ 401 := by
  intro hr h
  have hopn : opsOk n 0 := ⟨by rw [if_neg (by rw [hux]; decide)]; exact hx, by rw [if_neg (by rw [huy]; decide)]; exact hy⟩
  exact ⟨snoc_ok (l := []) (fun i hi => absurd hi (by simp)) (fun m hm => absurd hm (by simp)) hopn ⟨hk, hz, hr⟩, by simp [catK, catS]⟩
theorem fin_1 (n : Nd) (f : List Nd) (hk : known n.op = true) (hz : (n.op = 3 ∨ hasAgent n.op = true ∨ n.op = 17 ∨ n.i = 0) ∧ (n.op = 17 ∨ n.e = 0) ∧ (hasGroup n.op = true ∨ n.g = 0)) (hy : n.y = 0) (hux : usesX n.op = true) (huy : usesY n.op = false) :
    rangeOk n = true → (∀ g ∈ [f], fErr g = 0) → OkL (catK [f] [f].length ++ [lastN n [f]]) ∧ (catK [f] [f].length ++ [lastN n [f]]).length ≤ 401 := by
  intro hr h
  have hf := h f (by simp)
  have hne : f.length ≠ 0 := by simpa using (fErr_ok hf).1
  obtain ⟨h1, h2, h3⟩ := catK_ok [f] h 1 (by simp)
  have hl := catK_1 f
  refine ⟨snoc_ok h1 h2 ⟨?_, ?_⟩ ⟨hk, hz, hr⟩, by rw [List.length_append]; show (catK [f] 1).length + 1 ≤ 401; omega⟩
  · show if usesX n.op = true then 0 ≤ (f.length : Int) - 1 ∧ (f.length : Int) - 1 < ((catK [f] 1).length : Int) else _
    rw [if_pos hux]; omega
  · show if usesY n.op = true then _ else n.y = 0
    rw [if_neg (by rw [huy]; decide)]; exact hy
theorem fin_2 (n : Nd) (f g : List Nd) (hk : known n.op = true) (hz : (n.op = 3 ∨ hasAgent n.op = true ∨ n.op = 17 ∨ n.i = 0) ∧ (n.op = 17 ∨ n.e = 0) ∧ (hasGroup n.op = true ∨ n.g = 0)) (hux : usesX n.op = true) (huy : usesY n.op = true) :
    rangeOk n = true → (∀ h ∈ [f, g], fErr h = 0) → OkL (catK [f, g] [f, g].length ++ [lastN n [f, g]]) ∧ (catK [f, g] [f, g].length ++ [lastN n [f, g]]).length ≤ 401 := by
  intro hr h
  have hf := h f (by simp)
  have hg := h g (by simp)
  have hne : f.length ≠ 0 := by simpa using (fErr_ok hf).1
  have hne2 : g.length ≠ 0 := by simpa using (fErr_ok hg).1
  obtain ⟨h1, h2, h3⟩ := catK_ok [f, g] h 2 (by simp)
  have hl := catK_2 f g
  refine ⟨snoc_ok h1 h2 ⟨?_, ?_⟩ ⟨hk, hz, hr⟩, by rw [List.length_append]; show (catK [f, g] 2).length + 1 ≤ 401; omega⟩
  · show if usesX n.op = true then 0 ≤ (f.length : Int) - 1 ∧ (f.length : Int) - 1 < ((catK [f, g] 2).length : Int) else _
    rw [if_pos hux]; omega
  · show if usesY n.op = true then 0 ≤ (f.length + g.length : Int) - 1 ∧ (f.length + g.length : Int) - 1 < ((catK [f, g] 2).length : Int) else _
    rw [if_pos huy]; omega
theorem reads_sl1 (W : World) (A : Option Addr) (n c : Nat) : Reads (W.alloc (.cells #[.slice A n c] 22)) (W.alloc (.cells #[.slice A n c] 22)).heap.size 1 (some ⟨W.heap.size, 0, none⟩) 1 [.slice A n c] := by
  refine ⟨rfl, fun _ => ⟨_, rfl, by simp, fun j u hj => ?_⟩⟩
  have hh := heap_alloc_new W (.cells #[.slice A n c] 22)
  rw [addr_zero, Lib.cell_of_heap hh, ← hj]
  simp
theorem reads_sl2 (W : World) (A A2 : Option Addr) (n c n2 c2 : Nat) : Reads (W.alloc (.cells #[.slice A n c, .slice A2 n2 c2] 22)) (W.alloc (.cells #[.slice A n c, .slice A2 n2 c2] 22)).heap.size 1 (some ⟨W.heap.size, 0, none⟩) 2 [.slice A n c, .slice A2 n2 c2] := by
  refine ⟨rfl, fun _ => ⟨_, rfl, by simp, fun j u hj => ?_⟩⟩
  have hh := heap_alloc_new W (.cells #[.slice A n c, .slice A2 n2 c2] 22)
  rw [addr_zero, Lib.cell_of_heap hh, ← hj]
  simp
/-- build at one operand, behind the making of the operands' slice -/
theorem build_1 (n : Nd) (f : List Nd) (A : Option Addr) (c : Nat) (w : World) (hx : n.x = 0) (hy : n.y = 0) (hR : Reads w w.heap.size 6 A f.length (nds f)) (hm : f.length ≤ maxLen)
    (hfin : rangeOk n = true → (∀ g ∈ [f], fErr g = 0) → OkL (catK [f] [f].length ++ [lastN n [f]]) ∧ (catK [f] [f].length ++ [lastN n [f]]).length ≤ 401) :
    Calls Try.prog 86 #[nv n, .slice (some ⟨w.heap.size, 0, none⟩) 1 1] (w.alloc (.cells #[.slice A f.length c] 22)) fun e w' => ∃ A' c', e = .returned (.slice A' (buildF n [f]).length c') ∧ Reads w' w'.heap.size 6 A' (buildF n [f]).length (nds (buildF n [f])) ∧ Below w.heap.size w w' := by
  have hb : Below w.heap.size w (w.alloc (.cells #[.slice A f.length c] 22)) := (Below.refl _ w).alloc (Nat.le_refl _) _
  refine (pBuild_any n [f] [.slice A f.length c] (some ⟨w.heap.size, 0, none⟩) 1 _ hx hy (by simp) (reads_sl1 w A f.length c) ?_ hfin).mono ?_
  · intro j hj
    have hj0 : j = 0 := by simpa using hj
    subst hj0
    exact ⟨A, c, rfl, (hR.below hb).more hb.size, hm⟩
  · rintro e w' ⟨A', c', rfl, h1, h2⟩
    exact ⟨A', c', rfl, h1, hb.trans (h2.mono hb.size)⟩
theorem build_2 (n : Nd) (f g : List Nd) (A A2 : Option Addr) (c c2 : Nat) (w : World) (hx : n.x = 0) (hy : n.y = 0) (hR : Reads w w.heap.size 6 A f.length (nds f)) (hR2 : Reads w w.heap.size 6 A2 g.length (nds g)) (hm : f.length ≤ maxLen) (hm2 : g.length ≤ maxLen)
    (hfin : rangeOk n = true → (∀ h ∈ [f, g], fErr h = 0) → OkL (catK [f, g] [f, g].length ++ [lastN n [f, g]]) ∧ (catK [f, g] [f, g].length ++ [lastN n [f, g]]).length ≤ 401) :
    Calls Try.prog 86 #[nv n, .slice (some ⟨w.heap.size, 0, none⟩) 2 2] (w.alloc (.cells #[.slice A f.length c, .slice A2 g.length c2] 22)) fun e w' => ∃ A' c', e = .returned (.slice A' (buildF n [f, g]).length c') ∧ Reads w' w'.heap.size 6 A' (buildF n [f, g]).length (nds (buildF n [f, g])) ∧ Below w.heap.size w w' := by
  have hb : Below w.heap.size w (w.alloc (.cells #[.slice A f.length c, .slice A2 g.length c2] 22)) := (Below.refl _ w).alloc (Nat.le_refl _) _
  refine (pBuild_any n [f, g] [.slice A f.length c, .slice A2 g.length c2] (some ⟨w.heap.size, 0, none⟩) 2 _ hx hy (by simp) (reads_sl2 w A A2 f.length c g.length c2) ?_ hfin).mono ?_
  · intro j hj
    have hj2 : j = 0 ∨ j = 1 := by simp at hj; omega
    rcases hj2 with rfl | rfl
    · exact ⟨A, c, rfl, (hR.below hb).more hb.size, hm⟩
    · exact ⟨A2, c2, rfl, (hR2.below hb).more hb.size, hm2⟩
  · rintro e w' ⟨A', c', rfl, h1, h2⟩
    exact ⟨A', c', rfl, h1, hb.trans (h2.mono hb.size)⟩
set_option maxRecDepth 100000 in
theorem pTrue_any (w : World) :
    Calls Try.prog 70 #[] w fun e w' => ∃ A' c', e = .returned (.slice A' (buildF ⟨1, 0, 0, 0, 0, 0⟩ []).length c') ∧ Reads w' w'.heap.size 6 A' (buildF ⟨1, 0, 0, 0, 0, 0⟩ []).length (nds (buildF ⟨1, 0, 0, 0, 0, 0⟩ [])) ∧ Below w.heap.size w w' := by
  have HC := Lib.hid (pBuild_any ⟨1, 0, 0, 0, 0, 0⟩ [] [] none 0 w rfl rfl (by simp) Reads.none_ (fun j hj => absurd hj (by simp)) (fin_0 ⟨1, 0, 0, 0, 0, 0⟩ rfl ⟨Or.inr (Or.inr (Or.inr rfl)), Or.inr rfl, Or.inr rfl⟩ rfl rfl rfl rfl))
  unfold nv at HC
  generalize buildF ⟨1, 0, 0, 0, 0, 0⟩ [] = q at *
  dsimp only at HC
  go_enter Try.func70, Try.ntmps70
  go_wp2_with fail
  refine (HC.out).mono ?_
  rintro e w2 ⟨A', c', rfl, hR2, hb2⟩
  have HR2 := Lib.hid hR2
  have HB2 := Lib.hid hb2
  clear hR2 hb2
  go_wp2
  go_ret
  exact ⟨A', c', rfl, HR2.out, HB2.out⟩
set_option maxRecDepth 100000 in
theorem pFalse_any (w : World) :
    Calls Try.prog 71 #[] w fun e w' => ∃ A' c', e = .returned (.slice A' (buildF ⟨2, 0, 0, 0, 0, 0⟩ []).length c') ∧ Reads w' w'.heap.size 6 A' (buildF ⟨2, 0, 0, 0, 0, 0⟩ []).length (nds (buildF ⟨2, 0, 0, 0, 0, 0⟩ [])) ∧ Below w.heap.size w w' := by
  have HC := Lib.hid (pBuild_any ⟨2, 0, 0, 0, 0, 0⟩ [] [] none 0 w rfl rfl (by simp) Reads.none_ (fun j hj => absurd hj (by simp)) (fin_0 ⟨2, 0, 0, 0, 0, 0⟩ rfl ⟨Or.inr (Or.inr (Or.inr rfl)), Or.inr rfl, Or.inr rfl⟩ rfl rfl rfl rfl))
  unfold nv at HC
  generalize buildF ⟨2, 0, 0, 0, 0, 0⟩ [] = q at *
  dsimp only at HC
  go_enter Try.func71, Try.ntmps71
  go_wp2_with fail
  refine (HC.out).mono ?_
  rintro e w2 ⟨A', c', rfl, hR2, hb2⟩
  have HR2 := Lib.hid hR2
  have HB2 := Lib.hid hb2
  clear hR2 hb2
  go_wp2
  go_ret
  exact ⟨A', c', rfl, HR2.out, HB2.out⟩
set_option maxRecDepth 100000 in
theorem pFact_any (zi : Int) (w : World) :
    Calls Try.prog 50 #[.int .i64 zi] w fun e w' => ∃ A' c', e = .returned (.slice A' (buildF ⟨3, zi, 0, 0, 0, 0⟩ []).length c') ∧ Reads w' w'.heap.size 6 A' (buildF ⟨3, zi, 0, 0, 0, 0⟩ []).length (nds (buildF ⟨3, zi, 0, 0, 0, 0⟩ [])) ∧ Below w.heap.size w w' := by
  have HC := Lib.hid (pBuild_any ⟨3, zi, 0, 0, 0, 0⟩ [] [] none 0 w rfl rfl (by simp) Reads.none_ (fun j hj => absurd hj (by simp)) (fin_0 ⟨3, zi, 0, 0, 0, 0⟩ rfl ⟨Or.inl rfl, Or.inr rfl, Or.inr rfl⟩ rfl rfl rfl rfl))
  unfold nv at HC
  generalize buildF ⟨3, zi, 0, 0, 0, 0⟩ [] = q at *
  dsimp only at HC
  go_enter Try.func50, Try.ntmps50
  go_wp2_with fail
  refine (HC.out).mono ?_
  rintro e w2 ⟨A', c', rfl, hR2, hb2⟩
  have HR2 := Lib.hid hR2
  have HB2 := Lib.hid hb2
  clear hR2 hb2
  go_wp2
  go_ret
  exact ⟨A', c', rfl, HR2.out, HB2.out⟩
set_option maxRecDepth 100000 in
theorem pNot_any (f : List Nd) (Af : Option Addr) (nf cf : Nat) (w : World) (hRf : Reads w w.heap.size 6 Af nf (nds f)) (hmf : nf ≤ maxLen) :
    Calls Try.prog 72 #[.slice Af nf cf] w fun e w' => ∃ A' c', e = .returned (.slice A' (buildF ⟨4, 0, 0, 0, 0, 0⟩ [f]).length c') ∧ Reads w' w'.heap.size 6 A' (buildF ⟨4, 0, 0, 0, 0, 0⟩ [f]).length (nds (buildF ⟨4, 0, 0, 0, 0, 0⟩ [f])) ∧ Below w.heap.size w w' := by
  have hlf := hRf.nd_len
  subst hlf
  have HC := Lib.hid (build_1 ⟨4, 0, 0, 0, 0, 0⟩ f Af cf w rfl rfl hRf hmf (fin_1 ⟨4, 0, 0, 0, 0, 0⟩ f rfl ⟨Or.inr (Or.inr (Or.inr rfl)), Or.inr rfl, Or.inr rfl⟩ rfl rfl rfl))
  unfold nv at HC
  generalize buildF ⟨4, 0, 0, 0, 0, 0⟩ [f] = q at *
  dsimp only at HC
  go_enter Try.func72, Try.ntmps72
  go_wp2_with fail
  refine (HC.out).mono ?_
  rintro e w2 ⟨A', c', rfl, hR2, hb2⟩
  have HR2 := Lib.hid hR2
  have HB2 := Lib.hid hb2
  clear hR2 hb2
  go_wp2
  go_ret
  exact ⟨A', c', rfl, HR2.out, HB2.out⟩
set_option maxRecDepth 100000 in
theorem pAnd_any (f : List Nd) (Af : Option Addr) (nf cf : Nat) (h : List Nd) (Ah : Option Addr) (nh ch : Nat) (w : World) (hRf : Reads w w.heap.size 6 Af nf (nds f)) (hmf : nf ≤ maxLen) (hRh : Reads w w.heap.size 6 Ah nh (nds h)) (hmh : nh ≤ maxLen) :
    Calls Try.prog 49 #[.slice Af nf cf, .slice Ah nh ch] w fun e w' => ∃ A' c', e = .returned (.slice A' (buildF ⟨5, 0, 0, 0, 0, 0⟩ [f, h]).length c') ∧ Reads w' w'.heap.size 6 A' (buildF ⟨5, 0, 0, 0, 0, 0⟩ [f, h]).length (nds (buildF ⟨5, 0, 0, 0, 0, 0⟩ [f, h])) ∧ Below w.heap.size w w' := by
  have hlf := hRf.nd_len
  subst hlf
  have hlh := hRh.nd_len
  subst hlh
  have HC := Lib.hid (build_2 ⟨5, 0, 0, 0, 0, 0⟩ f h Af Ah cf ch w rfl rfl hRf hRh hmf hmh (fin_2 ⟨5, 0, 0, 0, 0, 0⟩ f h rfl ⟨Or.inr (Or.inr (Or.inr rfl)), Or.inr rfl, Or.inr rfl⟩ rfl rfl))
  unfold nv at HC
  generalize buildF ⟨5, 0, 0, 0, 0, 0⟩ [f, h] = q at *
  dsimp only at HC
  go_enter Try.func49, Try.ntmps49
  go_wp2_with fail
  refine (HC.out).mono ?_
  rintro e w2 ⟨A', c', rfl, hR2, hb2⟩
  have HR2 := Lib.hid hR2
  have HB2 := Lib.hid hb2
  clear hR2 hb2
  go_wp2
  go_ret
  exact ⟨A', c', rfl, HR2.out, HB2.out⟩
set_option maxRecDepth 100000 in
theorem pOr_any (f : List Nd) (Af : Option Addr) (nf cf : Nat) (h : List Nd) (Ah : Option Addr) (nh ch : Nat) (w : World) (hRf : Reads w w.heap.size 6 Af nf (nds f)) (hmf : nf ≤ maxLen) (hRh : Reads w w.heap.size 6 Ah nh (nds h)) (hmh : nh ≤ maxLen) :
    Calls Try.prog 47 #[.slice Af nf cf, .slice Ah nh ch] w fun e w' => ∃ A' c', e = .returned (.slice A' (buildF ⟨6, 0, 0, 0, 0, 0⟩ [f, h]).length c') ∧ Reads w' w'.heap.size 6 A' (buildF ⟨6, 0, 0, 0, 0, 0⟩ [f, h]).length (nds (buildF ⟨6, 0, 0, 0, 0, 0⟩ [f, h])) ∧ Below w.heap.size w w' := by
  have hlf := hRf.nd_len
  subst hlf
  have hlh := hRh.nd_len
  subst hlh
  have HC := Lib.hid (build_2 ⟨6, 0, 0, 0, 0, 0⟩ f h Af Ah cf ch w rfl rfl hRf hRh hmf hmh (fin_2 ⟨6, 0, 0, 0, 0, 0⟩ f h rfl ⟨Or.inr (Or.inr (Or.inr rfl)), Or.inr rfl, Or.inr rfl⟩ rfl rfl))
  unfold nv at HC
  generalize buildF ⟨6, 0, 0, 0, 0, 0⟩ [f, h] = q at *
  dsimp only at HC
  go_enter Try.func47, Try.ntmps47
  go_wp2_with fail
  refine (HC.out).mono ?_
  rintro e w2 ⟨A', c', rfl, hR2, hb2⟩
  have HR2 := Lib.hid hR2
  have HB2 := Lib.hid hb2
  clear hR2 hb2
  go_wp2
  go_ret
  exact ⟨A', c', rfl, HR2.out, HB2.out⟩
set_option maxRecDepth 100000 in
theorem pImp_any (f : List Nd) (Af : Option Addr) (nf cf : Nat) (h : List Nd) (Ah : Option Addr) (nh ch : Nat) (w : World) (hRf : Reads w w.heap.size 6 Af nf (nds f)) (hmf : nf ≤ maxLen) (hRh : Reads w w.heap.size 6 Ah nh (nds h)) (hmh : nh ≤ maxLen) :
    Calls Try.prog 73 #[.slice Af nf cf, .slice Ah nh ch] w fun e w' => ∃ A' c', e = .returned (.slice A' (buildF ⟨7, 0, 0, 0, 0, 0⟩ [f, h]).length c') ∧ Reads w' w'.heap.size 6 A' (buildF ⟨7, 0, 0, 0, 0, 0⟩ [f, h]).length (nds (buildF ⟨7, 0, 0, 0, 0, 0⟩ [f, h])) ∧ Below w.heap.size w w' := by
  have hlf := hRf.nd_len
  subst hlf
  have hlh := hRh.nd_len
  subst hlh
  have HC := Lib.hid (build_2 ⟨7, 0, 0, 0, 0, 0⟩ f h Af Ah cf ch w rfl rfl hRf hRh hmf hmh (fin_2 ⟨7, 0, 0, 0, 0, 0⟩ f h rfl ⟨Or.inr (Or.inr (Or.inr rfl)), Or.inr rfl, Or.inr rfl⟩ rfl rfl))
  unfold nv at HC
  generalize buildF ⟨7, 0, 0, 0, 0, 0⟩ [f, h] = q at *
  dsimp only at HC
  go_enter Try.func73, Try.ntmps73
  go_wp2_with fail
  refine (HC.out).mono ?_
  rintro e w2 ⟨A', c', rfl, hR2, hb2⟩
  have HR2 := Lib.hid hR2
  have HB2 := Lib.hid hb2
  clear hR2 hb2
  go_wp2
  go_ret
  exact ⟨A', c', rfl, HR2.out, HB2.out⟩
set_option maxRecDepth 100000 in
theorem pIff_any (f : List Nd) (Af : Option Addr) (nf cf : Nat) (h : List Nd) (Ah : Option Addr) (nh ch : Nat) (w : World) (hRf : Reads w w.heap.size 6 Af nf (nds f)) (hmf : nf ≤ maxLen) (hRh : Reads w w.heap.size 6 Ah nh (nds h)) (hmh : nh ≤ maxLen) :
    Calls Try.prog 74 #[.slice Af nf cf, .slice Ah nh ch] w fun e w' => ∃ A' c', e = .returned (.slice A' (buildF ⟨8, 0, 0, 0, 0, 0⟩ [f, h]).length c') ∧ Reads w' w'.heap.size 6 A' (buildF ⟨8, 0, 0, 0, 0, 0⟩ [f, h]).length (nds (buildF ⟨8, 0, 0, 0, 0, 0⟩ [f, h])) ∧ Below w.heap.size w w' := by
  have hlf := hRf.nd_len
  subst hlf
  have hlh := hRh.nd_len
  subst hlh
  have HC := Lib.hid (build_2 ⟨8, 0, 0, 0, 0, 0⟩ f h Af Ah cf ch w rfl rfl hRf hRh hmf hmh (fin_2 ⟨8, 0, 0, 0, 0, 0⟩ f h rfl ⟨Or.inr (Or.inr (Or.inr rfl)), Or.inr rfl, Or.inr rfl⟩ rfl rfl))
  unfold nv at HC
  generalize buildF ⟨8, 0, 0, 0, 0, 0⟩ [f, h] = q at *
  dsimp only at HC
  go_enter Try.func74, Try.ntmps74
  go_wp2_with fail
  refine (HC.out).mono ?_
  rintro e w2 ⟨A', c', rfl, hR2, hb2⟩
  have HR2 := Lib.hid hR2
  have HB2 := Lib.hid hb2
  clear hR2 hb2
  go_wp2
  go_ret
  exact ⟨A', c', rfl, HR2.out, HB2.out⟩
set_option maxRecDepth 100000 in
theorem pKnow_any (zi : Int) (f : List Nd) (Af : Option Addr) (nf cf : Nat) (w : World) (hRf : Reads w w.heap.size 6 Af nf (nds f)) (hmf : nf ≤ maxLen) :
    Calls Try.prog 48 #[.int .i64 zi, .slice Af nf cf] w fun e w' => ∃ A' c', e = .returned (.slice A' (buildF ⟨9, zi, 0, 0, 0, 0⟩ [f]).length c') ∧ Reads w' w'.heap.size 6 A' (buildF ⟨9, zi, 0, 0, 0, 0⟩ [f]).length (nds (buildF ⟨9, zi, 0, 0, 0, 0⟩ [f])) ∧ Below w.heap.size w w' := by
  have hlf := hRf.nd_len
  subst hlf
  have HC := Lib.hid (build_1 ⟨9, zi, 0, 0, 0, 0⟩ f Af cf w rfl rfl hRf hmf (fin_1 ⟨9, zi, 0, 0, 0, 0⟩ f rfl ⟨Or.inr (Or.inl rfl), Or.inr rfl, Or.inr rfl⟩ rfl rfl rfl))
  unfold nv at HC
  generalize buildF ⟨9, zi, 0, 0, 0, 0⟩ [f] = q at *
  dsimp only at HC
  go_enter Try.func48, Try.ntmps48
  go_wp2_with fail
  refine (HC.out).mono ?_
  rintro e w2 ⟨A', c', rfl, hR2, hb2⟩
  have HR2 := Lib.hid hR2
  have HB2 := Lib.hid hb2
  clear hR2 hb2
  go_wp2
  go_ret
  exact ⟨A', c', rfl, HR2.out, HB2.out⟩
set_option maxRecDepth 100000 in
theorem pPoss_any (zi : Int) (f : List Nd) (Af : Option Addr) (nf cf : Nat) (w : World) (hRf : Reads w w.heap.size 6 Af nf (nds f)) (hmf : nf ≤ maxLen) :
    Calls Try.prog 75 #[.int .i64 zi, .slice Af nf cf] w fun e w' => ∃ A' c', e = .returned (.slice A' (buildF ⟨10, zi, 0, 0, 0, 0⟩ [f]).length c') ∧ Reads w' w'.heap.size 6 A' (buildF ⟨10, zi, 0, 0, 0, 0⟩ [f]).length (nds (buildF ⟨10, zi, 0, 0, 0, 0⟩ [f])) ∧ Below w.heap.size w w' := by
  have hlf := hRf.nd_len
  subst hlf
  have HC := Lib.hid (build_1 ⟨10, zi, 0, 0, 0, 0⟩ f Af cf w rfl rfl hRf hmf (fin_1 ⟨10, zi, 0, 0, 0, 0⟩ f rfl ⟨Or.inr (Or.inl rfl), Or.inr rfl, Or.inr rfl⟩ rfl rfl rfl))
  unfold nv at HC
  generalize buildF ⟨10, zi, 0, 0, 0, 0⟩ [f] = q at *
  dsimp only at HC
  go_enter Try.func75, Try.ntmps75
  go_wp2_with fail
  refine (HC.out).mono ?_
  rintro e w2 ⟨A', c', rfl, hR2, hb2⟩
  have HR2 := Lib.hid hR2
  have HB2 := Lib.hid hb2
  clear hR2 hb2
  go_wp2
  go_ret
  exact ⟨A', c', rfl, HR2.out, HB2.out⟩
set_option maxRecDepth 100000 in
theorem pEvery_any (zg : Int) (f : List Nd) (Af : Option Addr) (nf cf : Nat) (w : World) (hRf : Reads w w.heap.size 6 Af nf (nds f)) (hmf : nf ≤ maxLen) :
    Calls Try.prog 76 #[.int .i64 zg, .slice Af nf cf] w fun e w' => ∃ A' c', e = .returned (.slice A' (buildF ⟨11, 0, 0, zg, 0, 0⟩ [f]).length c') ∧ Reads w' w'.heap.size 6 A' (buildF ⟨11, 0, 0, zg, 0, 0⟩ [f]).length (nds (buildF ⟨11, 0, 0, zg, 0, 0⟩ [f])) ∧ Below w.heap.size w w' := by
  have hlf := hRf.nd_len
  subst hlf
  have HC := Lib.hid (build_1 ⟨11, 0, 0, zg, 0, 0⟩ f Af cf w rfl rfl hRf hmf (fin_1 ⟨11, 0, 0, zg, 0, 0⟩ f rfl ⟨Or.inr (Or.inr (Or.inr rfl)), Or.inr rfl, Or.inl rfl⟩ rfl rfl rfl))
  unfold nv at HC
  generalize buildF ⟨11, 0, 0, zg, 0, 0⟩ [f] = q at *
  dsimp only at HC
  go_enter Try.func76, Try.ntmps76
  go_wp2_with fail
  refine (HC.out).mono ?_
  rintro e w2 ⟨A', c', rfl, hR2, hb2⟩
  have HR2 := Lib.hid hR2
  have HB2 := Lib.hid hb2
  clear hR2 hb2
  go_wp2
  go_ret
  exact ⟨A', c', rfl, HR2.out, HB2.out⟩
set_option maxRecDepth 100000 in
theorem pDist_any (zg : Int) (f : List Nd) (Af : Option Addr) (nf cf : Nat) (w : World) (hRf : Reads w w.heap.size 6 Af nf (nds f)) (hmf : nf ≤ maxLen) :
    Calls Try.prog 97 #[.int .i64 zg, .slice Af nf cf] w fun e w' => ∃ A' c', e = .returned (.slice A' (buildF ⟨12, 0, 0, zg, 0, 0⟩ [f]).length c') ∧ Reads w' w'.heap.size 6 A' (buildF ⟨12, 0, 0, zg, 0, 0⟩ [f]).length (nds (buildF ⟨12, 0, 0, zg, 0, 0⟩ [f])) ∧ Below w.heap.size w w' := by
  have hlf := hRf.nd_len
  subst hlf
  have HC := Lib.hid (build_1 ⟨12, 0, 0, zg, 0, 0⟩ f Af cf w rfl rfl hRf hmf (fin_1 ⟨12, 0, 0, zg, 0, 0⟩ f rfl ⟨Or.inr (Or.inr (Or.inr rfl)), Or.inr rfl, Or.inl rfl⟩ rfl rfl rfl))
  unfold nv at HC
  generalize buildF ⟨12, 0, 0, zg, 0, 0⟩ [f] = q at *
  dsimp only at HC
  go_enter Try.func97, Try.ntmps97
  go_wp2_with fail
  refine (HC.out).mono ?_
  rintro e w2 ⟨A', c', rfl, hR2, hb2⟩
  have HR2 := Lib.hid hR2
  have HB2 := Lib.hid hb2
  clear hR2 hb2
  go_wp2
  go_ret
  exact ⟨A', c', rfl, HR2.out, HB2.out⟩
set_option maxRecDepth 100000 in
theorem pCommon_any (zg : Int) (f : List Nd) (Af : Option Addr) (nf cf : Nat) (h : List Nd) (Ah : Option Addr) (nh ch : Nat) (w : World) (hRf : Reads w w.heap.size 6 Af nf (nds f)) (hmf : nf ≤ maxLen) (hRh : Reads w w.heap.size 6 Ah nh (nds h)) (hmh : nh ≤ maxLen) :
    Calls Try.prog 98 #[.int .i64 zg, .slice Af nf cf, .slice Ah nh ch] w fun e w' => ∃ A' c', e = .returned (.slice A' (buildF ⟨13, 0, 0, zg, 0, 0⟩ [f, h]).length c') ∧ Reads w' w'.heap.size 6 A' (buildF ⟨13, 0, 0, zg, 0, 0⟩ [f, h]).length (nds (buildF ⟨13, 0, 0, zg, 0, 0⟩ [f, h])) ∧ Below w.heap.size w w' := by
  have hlf := hRf.nd_len
  subst hlf
  have hlh := hRh.nd_len
  subst hlh
  have HC := Lib.hid (build_2 ⟨13, 0, 0, zg, 0, 0⟩ f h Af Ah cf ch w rfl rfl hRf hRh hmf hmh (fin_2 ⟨13, 0, 0, zg, 0, 0⟩ f h rfl ⟨Or.inr (Or.inr (Or.inr rfl)), Or.inr rfl, Or.inl rfl⟩ rfl rfl))
  unfold nv at HC
  generalize buildF ⟨13, 0, 0, zg, 0, 0⟩ [f, h] = q at *
  dsimp only at HC
  go_enter Try.func98, Try.ntmps98
  go_wp2_with fail
  refine (HC.out).mono ?_
  rintro e w2 ⟨A', c', rfl, hR2, hb2⟩
  have HR2 := Lib.hid hR2
  have HB2 := Lib.hid hb2
  clear hR2 hb2
  go_wp2
  go_ret
  exact ⟨A', c', rfl, HR2.out, HB2.out⟩
set_option maxRecDepth 100000 in
theorem pBelief_any (zi : Int) (f : List Nd) (Af : Option Addr) (nf cf : Nat) (h : List Nd) (Ah : Option Addr) (nh ch : Nat) (w : World) (hRf : Reads w w.heap.size 6 Af nf (nds f)) (hmf : nf ≤ maxLen) (hRh : Reads w w.heap.size 6 Ah nh (nds h)) (hmh : nh ≤ maxLen) :
    Calls Try.prog 99 #[.int .i64 zi, .slice Af nf cf, .slice Ah nh ch] w fun e w' => ∃ A' c', e = .returned (.slice A' (buildF ⟨14, zi, 0, 0, 0, 0⟩ [f, h]).length c') ∧ Reads w' w'.heap.size 6 A' (buildF ⟨14, zi, 0, 0, 0, 0⟩ [f, h]).length (nds (buildF ⟨14, zi, 0, 0, 0, 0⟩ [f, h])) ∧ Below w.heap.size w w' := by
  have hlf := hRf.nd_len
  subst hlf
  have hlh := hRh.nd_len
  subst hlh
  have HC := Lib.hid (build_2 ⟨14, zi, 0, 0, 0, 0⟩ f h Af Ah cf ch w rfl rfl hRf hRh hmf hmh (fin_2 ⟨14, zi, 0, 0, 0, 0⟩ f h rfl ⟨Or.inr (Or.inl rfl), Or.inr rfl, Or.inr rfl⟩ rfl rfl))
  unfold nv at HC
  generalize buildF ⟨14, zi, 0, 0, 0, 0⟩ [f, h] = q at *
  dsimp only at HC
  go_enter Try.func99, Try.ntmps99
  go_wp2_with fail
  refine (HC.out).mono ?_
  rintro e w2 ⟨A', c', rfl, hR2, hb2⟩
  have HR2 := Lib.hid hR2
  have HB2 := Lib.hid hb2
  clear hR2 hb2
  go_wp2
  go_ret
  exact ⟨A', c', rfl, HR2.out, HB2.out⟩
set_option maxRecDepth 100000 in
theorem pSafe_any (zi : Int) (f : List Nd) (Af : Option Addr) (nf cf : Nat) (w : World) (hRf : Reads w w.heap.size 6 Af nf (nds f)) (hmf : nf ≤ maxLen) :
    Calls Try.prog 100 #[.int .i64 zi, .slice Af nf cf] w fun e w' => ∃ A' c', e = .returned (.slice A' (buildF ⟨15, zi, 0, 0, 0, 0⟩ [f]).length c') ∧ Reads w' w'.heap.size 6 A' (buildF ⟨15, zi, 0, 0, 0, 0⟩ [f]).length (nds (buildF ⟨15, zi, 0, 0, 0, 0⟩ [f])) ∧ Below w.heap.size w w' := by
  have hlf := hRf.nd_len
  subst hlf
  have HC := Lib.hid (build_1 ⟨15, zi, 0, 0, 0, 0⟩ f Af cf w rfl rfl hRf hmf (fin_1 ⟨15, zi, 0, 0, 0, 0⟩ f rfl ⟨Or.inr (Or.inl rfl), Or.inr rfl, Or.inr rfl⟩ rfl rfl rfl))
  unfold nv at HC
  generalize buildF ⟨15, zi, 0, 0, 0, 0⟩ [f] = q at *
  dsimp only at HC
  go_enter Try.func100, Try.ntmps100
  go_wp2_with fail
  refine (HC.out).mono ?_
  rintro e w2 ⟨A', c', rfl, hR2, hb2⟩
  have HR2 := Lib.hid hR2
  have HB2 := Lib.hid hb2
  clear hR2 hb2
  go_wp2
  go_ret
  exact ⟨A', c', rfl, HR2.out, HB2.out⟩
set_option maxRecDepth 100000 in
theorem pAnnounce_any (f : List Nd) (Af : Option Addr) (nf cf : Nat) (h : List Nd) (Ah : Option Addr) (nh ch : Nat) (w : World) (hRf : Reads w w.heap.size 6 Af nf (nds f)) (hmf : nf ≤ maxLen) (hRh : Reads w w.heap.size 6 Ah nh (nds h)) (hmh : nh ≤ maxLen) :
    Calls Try.prog 101 #[.slice Af nf cf, .slice Ah nh ch] w fun e w' => ∃ A' c', e = .returned (.slice A' (buildF ⟨16, 0, 0, 0, 0, 0⟩ [f, h]).length c') ∧ Reads w' w'.heap.size 6 A' (buildF ⟨16, 0, 0, 0, 0, 0⟩ [f, h]).length (nds (buildF ⟨16, 0, 0, 0, 0, 0⟩ [f, h])) ∧ Below w.heap.size w w' := by
  have hlf := hRf.nd_len
  subst hlf
  have hlh := hRh.nd_len
  subst hlh
  have HC := Lib.hid (build_2 ⟨16, 0, 0, 0, 0, 0⟩ f h Af Ah cf ch w rfl rfl hRf hRh hmf hmh (fin_2 ⟨16, 0, 0, 0, 0, 0⟩ f h rfl ⟨Or.inr (Or.inr (Or.inr rfl)), Or.inr rfl, Or.inr rfl⟩ rfl rfl))
  unfold nv at HC
  generalize buildF ⟨16, 0, 0, 0, 0, 0⟩ [f, h] = q at *
  dsimp only at HC
  go_enter Try.func101, Try.ntmps101
  go_wp2_with fail
  refine (HC.out).mono ?_
  rintro e w2 ⟨A', c', rfl, hR2, hb2⟩
  have HR2 := Lib.hid hR2
  have HB2 := Lib.hid hb2
  clear hR2 hb2
  go_wp2
  go_ret
  exact ⟨A', c', rfl, HR2.out, HB2.out⟩
set_option maxRecDepth 100000 in
theorem pAct_any (zi : Int) (ze : Int) (f : List Nd) (Af : Option Addr) (nf cf : Nat) (w : World) (hRf : Reads w w.heap.size 6 Af nf (nds f)) (hmf : nf ≤ maxLen) :
    Calls Try.prog 102 #[.int .i64 zi, .int .i64 ze, .slice Af nf cf] w fun e w' => ∃ A' c', e = .returned (.slice A' (buildF ⟨17, zi, ze, 0, 0, 0⟩ [f]).length c') ∧ Reads w' w'.heap.size 6 A' (buildF ⟨17, zi, ze, 0, 0, 0⟩ [f]).length (nds (buildF ⟨17, zi, ze, 0, 0, 0⟩ [f])) ∧ Below w.heap.size w w' := by
  have hlf := hRf.nd_len
  subst hlf
  have HC := Lib.hid (build_1 ⟨17, zi, ze, 0, 0, 0⟩ f Af cf w rfl rfl hRf hmf (fin_1 ⟨17, zi, ze, 0, 0, 0⟩ f rfl ⟨Or.inr (Or.inr (Or.inl rfl)), Or.inl rfl, Or.inr rfl⟩ rfl rfl rfl))
  unfold nv at HC
  generalize buildF ⟨17, zi, ze, 0, 0, 0⟩ [f] = q at *
  dsimp only at HC
  go_enter Try.func102, Try.ntmps102
  go_wp2_with fail
  refine (HC.out).mono ?_
  rintro e w2 ⟨A', c', rfl, hR2, hb2⟩
  have HR2 := Lib.hid hR2
  have HB2 := Lib.hid hb2
  clear hR2 hb2
  go_wp2
  go_ret
  exact ⟨A', c', rfl, HR2.out, HB2.out⟩
set_option maxRecDepth 100000 in
theorem pNext_any (f : List Nd) (Af : Option Addr) (nf cf : Nat) (w : World) (hRf : Reads w w.heap.size 6 Af nf (nds f)) (hmf : nf ≤ maxLen) :
    Calls Try.prog 103 #[.slice Af nf cf] w fun e w' => ∃ A' c', e = .returned (.slice A' (buildF ⟨18, 0, 0, 0, 0, 0⟩ [f]).length c') ∧ Reads w' w'.heap.size 6 A' (buildF ⟨18, 0, 0, 0, 0, 0⟩ [f]).length (nds (buildF ⟨18, 0, 0, 0, 0, 0⟩ [f])) ∧ Below w.heap.size w w' := by
  have hlf := hRf.nd_len
  subst hlf
  have HC := Lib.hid (build_1 ⟨18, 0, 0, 0, 0, 0⟩ f Af cf w rfl rfl hRf hmf (fin_1 ⟨18, 0, 0, 0, 0, 0⟩ f rfl ⟨Or.inr (Or.inr (Or.inr rfl)), Or.inr rfl, Or.inr rfl⟩ rfl rfl rfl))
  unfold nv at HC
  generalize buildF ⟨18, 0, 0, 0, 0, 0⟩ [f] = q at *
  dsimp only at HC
  go_enter Try.func103, Try.ntmps103
  go_wp2_with fail
  refine (HC.out).mono ?_
  rintro e w2 ⟨A', c', rfl, hR2, hb2⟩
  have HR2 := Lib.hid hR2
  have HB2 := Lib.hid hb2
  clear hR2 hb2
  go_wp2
  go_ret
  exact ⟨A', c', rfl, HR2.out, HB2.out⟩
set_option maxRecDepth 100000 in
theorem pUntil_any (f : List Nd) (Af : Option Addr) (nf cf : Nat) (h : List Nd) (Ah : Option Addr) (nh ch : Nat) (w : World) (hRf : Reads w w.heap.size 6 Af nf (nds f)) (hmf : nf ≤ maxLen) (hRh : Reads w w.heap.size 6 Ah nh (nds h)) (hmh : nh ≤ maxLen) :
    Calls Try.prog 104 #[.slice Af nf cf, .slice Ah nh ch] w fun e w' => ∃ A' c', e = .returned (.slice A' (buildF ⟨19, 0, 0, 0, 0, 0⟩ [f, h]).length c') ∧ Reads w' w'.heap.size 6 A' (buildF ⟨19, 0, 0, 0, 0, 0⟩ [f, h]).length (nds (buildF ⟨19, 0, 0, 0, 0, 0⟩ [f, h])) ∧ Below w.heap.size w w' := by
  have hlf := hRf.nd_len
  subst hlf
  have hlh := hRh.nd_len
  subst hlh
  have HC := Lib.hid (build_2 ⟨19, 0, 0, 0, 0, 0⟩ f h Af Ah cf ch w rfl rfl hRf hRh hmf hmh (fin_2 ⟨19, 0, 0, 0, 0, 0⟩ f h rfl ⟨Or.inr (Or.inr (Or.inr rfl)), Or.inr rfl, Or.inr rfl⟩ rfl rfl))
  unfold nv at HC
  generalize buildF ⟨19, 0, 0, 0, 0, 0⟩ [f, h] = q at *
  dsimp only at HC
  go_enter Try.func104, Try.ntmps104
  go_wp2_with fail
  refine (HC.out).mono ?_
  rintro e w2 ⟨A', c', rfl, hR2, hb2⟩
  have HR2 := Lib.hid hR2
  have HB2 := Lib.hid hb2
  clear hR2 hb2
  go_wp2
  go_ret
  exact ⟨A', c', rfl, HR2.out, HB2.out⟩
set_option maxRecDepth 100000 in
theorem pPrev_any (f : List Nd) (Af : Option Addr) (nf cf : Nat) (w : World) (hRf : Reads w w.heap.size 6 Af nf (nds f)) (hmf : nf ≤ maxLen) :
    Calls Try.prog 105 #[.slice Af nf cf] w fun e w' => ∃ A' c', e = .returned (.slice A' (buildF ⟨20, 0, 0, 0, 0, 0⟩ [f]).length c') ∧ Reads w' w'.heap.size 6 A' (buildF ⟨20, 0, 0, 0, 0, 0⟩ [f]).length (nds (buildF ⟨20, 0, 0, 0, 0, 0⟩ [f])) ∧ Below w.heap.size w w' := by
  have hlf := hRf.nd_len
  subst hlf
  have HC := Lib.hid (build_1 ⟨20, 0, 0, 0, 0, 0⟩ f Af cf w rfl rfl hRf hmf (fin_1 ⟨20, 0, 0, 0, 0, 0⟩ f rfl ⟨Or.inr (Or.inr (Or.inr rfl)), Or.inr rfl, Or.inr rfl⟩ rfl rfl rfl))
  unfold nv at HC
  generalize buildF ⟨20, 0, 0, 0, 0, 0⟩ [f] = q at *
  dsimp only at HC
  go_enter Try.func105, Try.ntmps105
  go_wp2_with fail
  refine (HC.out).mono ?_
  rintro e w2 ⟨A', c', rfl, hR2, hb2⟩
  have HR2 := Lib.hid hR2
  have HB2 := Lib.hid hb2
  clear hR2 hb2
  go_wp2
  go_ret
  exact ⟨A', c', rfl, HR2.out, HB2.out⟩
set_option maxRecDepth 100000 in
theorem pSince_any (f : List Nd) (Af : Option Addr) (nf cf : Nat) (h : List Nd) (Ah : Option Addr) (nh ch : Nat) (w : World) (hRf : Reads w w.heap.size 6 Af nf (nds f)) (hmf : nf ≤ maxLen) (hRh : Reads w w.heap.size 6 Ah nh (nds h)) (hmh : nh ≤ maxLen) :
    Calls Try.prog 106 #[.slice Af nf cf, .slice Ah nh ch] w fun e w' => ∃ A' c', e = .returned (.slice A' (buildF ⟨21, 0, 0, 0, 0, 0⟩ [f, h]).length c') ∧ Reads w' w'.heap.size 6 A' (buildF ⟨21, 0, 0, 0, 0, 0⟩ [f, h]).length (nds (buildF ⟨21, 0, 0, 0, 0, 0⟩ [f, h])) ∧ Below w.heap.size w w' := by
  have hlf := hRf.nd_len
  subst hlf
  have hlh := hRh.nd_len
  subst hlh
  have HC := Lib.hid (build_2 ⟨21, 0, 0, 0, 0, 0⟩ f h Af Ah cf ch w rfl rfl hRf hRh hmf hmh (fin_2 ⟨21, 0, 0, 0, 0, 0⟩ f h rfl ⟨Or.inr (Or.inr (Or.inr rfl)), Or.inr rfl, Or.inr rfl⟩ rfl rfl))
  unfold nv at HC
  generalize buildF ⟨21, 0, 0, 0, 0, 0⟩ [f, h] = q at *
  dsimp only at HC
  go_enter Try.func106, Try.ntmps106
  go_wp2_with fail
  refine (HC.out).mono ?_
  rintro e w2 ⟨A', c', rfl, hR2, hb2⟩
  have HR2 := Lib.hid hR2
  have HB2 := Lib.hid hb2
  clear hR2 hb2
  go_wp2
  go_ret
  exact ⟨A', c', rfl, HR2.out, HB2.out⟩
end Go.Proofs.Ytcbmncafmofcpaa
