/- Contracts of layer 2: the image by the reference, and what is reached, on both sides. -/
import Derived.Test.YtogjbghieoifjaaDoorRf
namespace Go.Proofs.YtogjbghieoifjaaDoor
open Go.RowKit Go.Proofs.Ws
theorem filter_lt (p q : Nat → Bool) : ∀ (l : List Nat), (∀ a ∈ l, p a = true → q a = true) → (∃ a ∈ l, q a = true ∧ p a = false) → (l.filter p).length < (l.filter q).length
  | [], _, h => by obtain ⟨a, ha, _⟩ := h; cases ha
  | b :: l, h, hx => by
    have hle : (l.filter p).length ≤ (l.filter q).length := by
      rw [← List.countP_eq_length_filter, ← List.countP_eq_length_filter]
      exact List.countP_mono_left (fun a ha => h a (List.mem_cons_of_mem _ ha))
    by_cases hp : p b = true
    · have hq := h b (by simp) hp
      rw [List.filter_cons_of_pos hp, List.filter_cons_of_pos hq, List.length_cons, List.length_cons]
      have := filter_lt p q l (fun a ha => h a (List.mem_cons_of_mem _ ha)) (by
        obtain ⟨a, ha, h1, h2⟩ := hx
        rcases List.mem_cons.1 ha with rfl | ha
        · rw [hp] at h2; cases h2
        · exact ⟨a, ha, h1, h2⟩)
      omega
    · rw [List.filter_cons_of_neg hp]
      by_cases hq : q b = true
      · rw [List.filter_cons_of_pos hq, List.length_cons]; omega
      · rw [List.filter_cons_of_neg hq]
        exact filter_lt p q l (fun a ha => h a (List.mem_cons_of_mem _ ha)) (by
          obtain ⟨a, ha, h1, h2⟩ := hx
          rcases List.mem_cons.1 ha with rfl | ha
          · exact absurd h1 hq
          · exact ⟨a, ha, h1, h2⟩)
/-- a set that has more has more members -/
theorem mem_more (x y : Nat) (hx : x < 18446744073709551616) (hy : y < 18446744073709551616) (h : x ||| y ≠ x) : (mem x).length < (mem (x ||| y)).length := by
  unfold mem
  apply filter_lt
  · intro a _ ha; rw [Nat.testBit_or, ha]; rfl
  · apply Classical.byContradiction
    intro hn
    apply h
    apply Nat.eq_of_testBit_eq
    intro i
    by_cases hi : i < 64
    · by_cases hxi : x.testBit i = true
      · rw [Nat.testBit_or, hxi]; rfl
      · have hxi' : x.testBit i = false := by simpa using hxi
        apply Classical.byContradiction
        intro hne
        exact hn ⟨i, List.mem_range.2 hi, by simpa [hxi'] using hne, hxi'⟩
    · rw [Nat.testBit_or, bit_ge x i hx (by omega), bit_ge y i hy (by omega)]; rfl
theorem mem_le (x m : Nat) (hm : m ≤ 64) (h : x < 2 ^ m) : (mem x).length ≤ m := by
  have e : x &&& allV m = x := by
    rw [allV_nat m hm, Nat.and_two_pow_sub_one_eq_mod]; exact Nat.mod_eq_of_lt h
  have := mem_below x m hm
  rw [e] at this
  rw [this]
  have := List.length_filter_le (fun u => x.testBit u) (List.range m)
  simpa using this
def stepR (R : List Nat) (x : Nat) : Nat := x ||| imgV R x
def itR (R : List Nat) : Nat → Nat → Nat
  | 0, x => x
  | n + 1, x => itR R n (stepR R x)
theorem itR_fix (R : List Nat) (x : Nat) (h : stepR R x = x) : ∀ n, itR R n x = x
  | 0 => rfl
  | n + 1 => by rw [itR, h]; exact itR_fix R x h n
theorem itR_comm (R : List Nat) : ∀ n x, itR R (n + 1) x = stepR R (itR R n x)
  | 0, _ => rfl
  | n + 1, x => by rw [itR, itR_comm R n]; rfl
theorem foldOr_in (R : List Nat) (m : Nat) (h : ∀ x ∈ R, x < 2 ^ m) : ∀ (ks : List Nat) (a : Nat), a < 2 ^ m → ks.foldl (fun a k => a ||| R.getD k 0) a < 2 ^ m
  | [], _, ha => ha
  | k :: ks, _, ha => foldOr_in R m h ks _ (Nat.or_lt_two_pow ha (by
    rw [List.getD_eq_getElem?_getD]
    by_cases hk : k < R.length
    · rw [List.getElem?_eq_getElem hk]; exact h _ (List.getElem_mem hk)
    · rw [List.getElem?_eq_none (by omega)]; exact Nat.two_pow_pos m))
theorem imgV_in {R : List Nat} {m : Nat} (h : ∀ x ∈ R, x < 2 ^ m) (s : Nat) : imgV R s < 2 ^ m := foldOr_in R m h _ 0 (Nat.two_pow_pos m)
theorem stepR_in {R : List Nat} {m : Nat} (h : ∀ x ∈ R, x < 2 ^ m) {x : Nat} (hx : x < 2 ^ m) : stepR R x < 2 ^ m := Nat.or_lt_two_pow hx (imgV_in h x)
theorem pow64 {m x : Nat} (hm : m ≤ 64) (h : x < 2 ^ m) : x < 18446744073709551616 := Nat.lt_of_lt_of_le h (Nat.pow_le_pow_right (by decide) hm)
theorem step_more {R : List Nat} {m : Nat} (hm : m ≤ 64) (h : ∀ x ∈ R, x < 2 ^ m) {x : Nat} (hx : x < 2 ^ m) (hne : stepR R x ≠ x) : (mem x).length < (mem (stepR R x)).length ∧ (mem (stepR R x)).length ≤ m :=
  ⟨mem_more _ _ (pow64 hm hx) (pow64 hm (imgV_in h x)) hne, mem_le _ m hm (stepR_in h hx)⟩
theorem itR_stable {R : List Nat} {m : Nat} (hm : m ≤ 64) (h : ∀ x ∈ R, x < 2 ^ m) : ∀ (n x : Nat), x < 2 ^ m → m ≤ n + (mem x).length → stepR R (itR R n x) = itR R n x
  | 0, x, hx, hl => by
    apply Classical.byContradiction
    intro hne
    have := step_more hm h hx hne
    omega
  | n + 1, x, hx, hl => by
    by_cases hf : stepR R x = x
    · rw [itR_fix R x hf]; exact hf
    · have := step_more hm h hx hf
      exact itR_stable hm h n (stepR R x) (stepR_in h hx) (by omega)
/-- the limit does not change on the way -/
theorem lim_step {R : List Nat} {m : Nat} (hm : m ≤ 64) (h : ∀ x ∈ R, x < 2 ^ m) {x : Nat} (hx : x < 2 ^ m) : itR R m (stepR R x) = itR R m x := by
  rw [show itR R m (stepR R x) = itR R (m + 1) x from rfl, itR_comm]
  exact itR_stable hm h m x hx (by omega)
/-- what one or more steps lead to -/
def reachV (R : List Nat) (s : Nat) : Nat := if relErr R.length R = 0 then itR R R.length (imgV R s) else 0
theorem relErr_rows {R : List Nat} {m : Nat} (h : relErr m R = 0) : ∀ x ∈ R, x < 2 ^ m := by
  intro x hx
  unfold relErr at h
  split at h
  · cases h
  · split at h
    · cases h
    · split at h
      · rename_i h3
        unfold inN at h3
        have := List.all_eq_true.1 h3 x hx
        simpa using this
      · cases h
set_option maxRecDepth 100000 in
set_option maxHeartbeats 2000000 in
theorem reach_any (R : List Nat) (s : Nat) (A : Option Addr) (m c : Nat) (w : World) (hR : Reads w w.heap.size 1 A m (us R)) (hw : Words R) (hm : m ≤ maxLen) (hs : s < 18446744073709551616) (hT : Tab w) :
    Calls Tryd.prog 35 #[.slice A m c, .int .u64 s] w fun e w' => e = .returned (.int .u64 (reachV R s : Int)) ∧ Below w.heap.size w w' := by
  have e1 := hR.word_len
  have HC := Lib.hid (valid_any R A m c _ w hR hw hm)
  by_cases h0 : relErr m R = 0
  · have hm64 := relErr_zero h0
    have hrows := relErr_rows h0
    have HROWS := Lib.hid hrows
    have HV : Hid (reachV R s = itR R m (imgV R s)) := Lib.hid (by unfold reachV; rw [e1, if_pos h0])
    rw [h0] at HC
    have HI := Lib.hid (image_any R A m c s w hs hR hw hm64 hT)
    have HIM := Lib.hid (fun (x : Nat) (W : World) (hx : x < 18446744073709551616) (hb : Below w.heap.size w W) => image_any R A m c x W hx ((hR.below hb).more hb.size) hw hm64 (hT.below hb))
    have HX0 := Lib.hid (imgV_in hrows s)
    clear h0 hw e1 hR hT hrows hs
    go_enter Tryd.func35, Tryd.ntmps35
    go_wp2_with (first | (go_at_call 46; refine (HC.out).mono ?_; rintro e w' ⟨rfl, rfl⟩) | (go_at_call 56; refine (HI.out).mono ?_; rintro e w1 ⟨rfl, hb1⟩))
    go_loopw [5] (fun sv wr => ∃ x : Nat, sv = .int .u64 (x : Int) ∧ Hid (x < 2 ^ m) ∧ Hid (itR R m x = reachV R s) ∧ Hid (Below w.heap.size w wr)) (fun sv _ => 64 - (mem (intOf sv).toNat).length)
    case atStart => exact ⟨imgV R s, rfl, HX0, Lib.hid HV.out.symm, Lib.hid hb1⟩
    case round =>
      clear hb1
      obtain ⟨x, rfl, HX, HL, HB⟩ := hrel
      have HI2 := Lib.hid (HIM.out x wr (pow64 hm64 HX.out) HB.out)
      have hor : bits .or .u64 (x : Int) (imgV R x : Int) = (stepR R x : Int) := u64_or_nat _ _ (pow64 hm64 HX.out) (pow64 hm64 (imgV_in HROWS.out x))
      by_cases hf : stepR R x = x
      · have HE : Hid (x = reachV R s) := Lib.hid (by rw [← HL.out]; exact (itR_fix R x hf m).symm)
        have heq : ((stepR R x : Int) == (x : Int)) = true := by rw [hf]; simp
        clear hf
        go_wp2_with (first | (go_at_call 56; refine (HI2.out).mono ?_; rintro e w1 ⟨rfl, hb1⟩))
        have HB1 := Lib.hid (HB.out.trans (hb1.mono HB.out.size))
        clear hb1
        go_ret
        exact ⟨ret_u64 (by rw [← HE.out]), HB1.out⟩
      · have HM := Lib.hid (step_more hm64 HROWS.out HX.out hf)
        have heq : ((stepR R x : Int) == (x : Int)) = false := by rw [beq_eq_false_iff_ne]; omega
        have HX2 := Lib.hid (stepR_in HROWS.out HX.out)
        have HL2 : Hid (itR R m (stepR R x) = reachV R s) := Lib.hid ((lim_step hm64 HROWS.out HX.out).trans HL.out)
        clear hf
        go_wp2_with (first | (go_at_call 56; refine (HI2.out).mono ?_; rintro e w1 ⟨rfl, hb1⟩; have HB1 := Lib.hid (HB.out.trans (hb1.mono HB.out.size)); clear hb1))
        go_roundw
        case rel => exact ⟨stepR R x, rfl, HX2, HL2, HB1⟩
        case measure => have := HM.out; simp [intOf]; omega
  · have HV : Hid (reachV R s = 0) := Lib.hid (by unfold reachV; rw [e1, if_neg h0])
    rw [decide_eq_false h0] at HC
    clear h0 hw e1 hR hT hs
    go_enter Tryd.func35, Tryd.ntmps35
    go_wp2_with (go_at_call 46; refine (HC.out).mono ?_; rintro e w' ⟨rfl, rfl⟩)
    go_ret
    exact ⟨ret_u64 (by rw [HV.out]; rfl), Below.refl _ _⟩
set_option maxRecDepth 100000 in
set_option maxHeartbeats 2000000 in
theorem refImage_any (R : List Nat) (s : Nat) (A : Option Addr) (m c B : Nat) (w : World) (hR : Reads w B 1 A m (us R)) (hw : Words R) (hm : m ≤ 64) (hs : s < 18446744073709551616) :
    Calls Tryd.prog 68 #[.slice A m c, .int .u64 s] w fun e w' => e = .returned (.int .u64 (imgV R s : Int)) ∧ ∃ q, w' = w.drewN q := by
  have e1 := hR.word_len
  have HW := Lib.hid hw
  have HV : Hid (imgV R s = imgU R s m) := Lib.hid (by rw [← e1, imgU_img R s (by omega)])
  have HIN := Lib.hid (fun (i q : Nat) (hi : i < m) => in_any s i (w.drewN q) hs (by omega))
  clear hw e1 hs
  go_enter Tryd.func68, Tryd.ntmps68
  go_wp2
  go_loopw [5, 6] (fun sv i wr => ∃ k q : Nat, k ≤ m ∧ i = .int .i64 k ∧ sv = .int .u64 (imgU R s k : Int) ∧ wr = w.drewN q) (fun _ i _ => m - (intOf i).toNat)
  case atStart => exact ⟨0, 0, Nat.zero_le _, rfl, rfl, rfl⟩
  case round =>
    obtain ⟨k, q, hk, rfl, rfl, rfl⟩ := hrel
    by_cases hlt : k < m
    · have HI := Lib.hid (HIN.out k q hlt)
      obtain ⟨x, hx⟩ : ∃ x, R.getD k 0 = x := ⟨_, rfl⟩
      obtain ⟨ad, rfl, hb, hc⟩ := hR.word_k hlt
      rw [hx] at hc
      have hor : bits .or .u64 (imgU R s k : Int) (x : Int) = ((imgU R s k ||| x : Nat) : Int) := u64_or_nat _ _ (imgU_lt HW.out s k) (by rw [← hx]; exact words_getD HW.out k)
      by_cases hp : s.testBit k = true
      · have HS : Hid (imgU R s (k + 1) = imgU R s k ||| x) := Lib.hid (by rw [imgU_succ, hx, if_pos hp])
        rw [hp] at HI
        clear hp hx
        go_wp2_with fail
        refine (HI.out).mono ?_
        rintro e w' ⟨rfl, rfl⟩
        go_wp2
        go_roundw
        case rel => exact ⟨k + 1, q, by omega, by go_num, by rw [HS.out], by first | rfl | rw [World.drewN_drewN]⟩
        case measure => simp [intOf]; omega
      · have HS : Hid (imgU R s (k + 1) = imgU R s k) := Lib.hid (by rw [imgU_succ, if_neg hp])
        have hp' : s.testBit k = false := by simpa using hp
        rw [hp'] at HI
        clear hp hp' hx
        go_wp2_with fail
        refine (HI.out).mono ?_
        rintro e w' ⟨rfl, rfl⟩
        go_wp2
        go_roundw
        case rel => exact ⟨k + 1, q, by omega, by go_num, by rw [HS.out], by first | rfl | rw [World.drewN_drewN]⟩
        case measure => simp [intOf]; omega
    · have hkm : k = m := by omega
      subst hkm
      go_wp2
      go_ret
      exact ⟨ret_u64 (by rw [HV.out]), ⟨q, rfl⟩⟩
set_option maxRecDepth 100000 in
set_option maxHeartbeats 2000000 in
theorem refReach_any (R : List Nat) (s : Nat) (A : Option Addr) (m c : Nat) (w : World) (hR : Reads w w.heap.size 1 A m (us R)) (hw : Words R) (hm : m ≤ maxLen) (hs : s < 18446744073709551616) :
    Calls Tryd.prog 36 #[.slice A m c, .int .u64 s] w fun e w' => e = .returned (.int .u64 (reachV R s : Int)) ∧ ∃ q, w' = w.drewN q := by
  have e1 := hR.word_len
  have HC := Lib.hid (ref2Valid_any R A m c _ w hR hw hm)
  by_cases h0 : relErr m R = 0
  · have hm64 := relErr_zero h0
    have hrows := relErr_rows h0
    have HROWS := Lib.hid hrows
    have HV : Hid (reachV R s = itR R m (imgV R s)) := Lib.hid (by unfold reachV; rw [e1, if_pos h0])
    rw [h0] at HC
    have HIM := Lib.hid (fun (x q : Nat) (hx : x < 18446744073709551616) => refImage_any R x A m c _ (w.drewN q) (hR.drewN q) hw hm64 hx)
    have HX0 := Lib.hid (imgV_in hrows s)
    have HS := Lib.hid hs
    clear h0 hw e1 hR hrows hs
    go_enter Tryd.func36, Tryd.ntmps36
    go_wp2_with fail
    refine (HC.out).mono ?_
    rintro e w' ⟨rfl, ⟨q1, rfl⟩⟩
    go_wp2_with fail
    refine (HIM.out s q1 HS.out).mono ?_
    rintro e w' ⟨rfl, ⟨q2, rfl⟩⟩
    go_wp2
    go_loopw [5, 6] (fun sv i wr => ∃ k x q : Nat, k ≤ m ∧ i = .int .i64 k ∧ sv = .int .u64 (x : Int) ∧ Hid (x < 2 ^ m) ∧ Hid (itR R (m - k) x = reachV R s) ∧ wr = w.drewN q) (fun _ i _ => m - (intOf i).toNat)
    case atStart => exact ⟨0, imgV R s, q1 + q2, Nat.zero_le _, rfl, rfl, HX0, Lib.hid HV.out.symm, by first | rfl | rw [World.drewN_drewN]⟩
    case round =>
      obtain ⟨k, x, q, hk, rfl, rfl, HX, HL, rfl⟩ := hrel
      by_cases hlt : k < m
      · have HI2 := Lib.hid (HIM.out x q (pow64 hm64 HX.out))
        have hor : bits .or .u64 (x : Int) (imgV R x : Int) = (stepR R x : Int) := u64_or_nat _ _ (pow64 hm64 HX.out) (pow64 hm64 (imgV_in HROWS.out x))
        have HX2 := Lib.hid (stepR_in HROWS.out HX.out)
        have HL2 : Hid (itR R (m - (k + 1)) (stepR R x) = reachV R s) := Lib.hid (by
          rw [← HL.out, show m - k = (m - (k + 1)) + 1 from by omega]; rfl)
        go_wp2_with fail
        refine (HI2.out).mono ?_
        rintro e w' ⟨rfl, ⟨q3, rfl⟩⟩
        go_wp2
        go_roundw
        case rel => exact ⟨k + 1, stepR R x, q + q3, by omega, by go_num, by first | rfl | rw [hor], HX2, HL2, by first | rfl | rw [World.drewN_drewN]⟩
        case measure => simp [intOf]; omega
      · have HE : Hid (x = reachV R s) := Lib.hid (by have := HL.out; rw [show m - k = 0 from by omega] at this; exact this)
        go_wp2
        go_ret
        exact ⟨ret_u64 (by rw [← HE.out]), ⟨q, rfl⟩⟩
  · have HV : Hid (reachV R s = 0) := Lib.hid (by unfold reachV; rw [e1, if_neg h0])
    rw [decide_eq_false h0] at HC
    clear h0 hw e1 hR hs
    go_enter Tryd.func36, Tryd.ntmps36
    go_wp2_with fail
    refine (HC.out).mono ?_
    rintro e w' ⟨rfl, ⟨q1, rfl⟩⟩
    go_wp2
    go_ret
    exact ⟨ret_u64 (by rw [HV.out]; rfl), ⟨q1, rfl⟩⟩
end Go.Proofs.YtogjbghieoifjaaDoor
