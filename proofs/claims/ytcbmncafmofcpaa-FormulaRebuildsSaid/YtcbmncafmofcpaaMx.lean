/- Layer 5: the law's own ways to build: with a constructor of the program, and as specified. -/
import Derived.Test.YtcbmncafmofcpaaMw
namespace Go.Proofs.Ws
open Go
/-- the node of an operator with the numbers that it uses -/
def cleanP (k i e g : Int) : Nd := ⟨k, if decide (k = 3) || hasAgent k || decide (k = 17) then i else 0, if k = 17 then e else 0, if hasGroup k = true then g else 0, 0, 0⟩
/-- the formula of an operator at numbers and operands -/
def partsF (k i e g : Int) (f h : List Nd) : List Nd := if usesY k = true then buildF (cleanP k i e g) [f, h] else if usesX k = true then buildF (cleanP k i e g) [f] else buildF (cleanP k i e g) []
end Go.Proofs.Ws
namespace Go.Proofs.Ytcbmncafmofcpaa
open Go.RowKit Go.Proofs.Ws Go.Maps
theorem partsF_un {n : Nd} {f h : List Nd} {k i e g : Int} (hn : cleanP k i e g = n) (hux : usesX k = true) (huy : usesY k = false) : partsF k i e g f h = buildF n [f] := by
  unfold partsF; rw [hux, huy, hn]; rfl
set_option maxRecDepth 100000 in
theorem con_1 (zi ze zg : Int) (f : List Nd) (Af : Option Addr) (nf cf : Nat) (h : List Nd) (Ah : Option Addr) (nh ch : Nat) (w : World) (_hRf : Reads w w.heap.size 6 Af nf (nds f)) (_hmf : nf ≤ maxLen) (_hRh : Reads w w.heap.size 6 Ah nh (nds h)) (_hmh : nh ≤ maxLen) :
    Calls Try.prog 38 #[.agg #[.int .i64 1, .int .i64 zi, .int .i64 ze, .int .i64 zg, .slice Af nf cf, .slice Ah nh ch]] w fun e w' => ∃ A' c', e = .returned (.slice A' (partsF 1 zi ze zg f h).length c') ∧ Reads w' w'.heap.size 6 A' (partsF 1 zi ze zg f h).length (nds (partsF 1 zi ze zg f h)) ∧ Below w.heap.size w w' := by
  have HC : Hid (∀ W, Below w.heap.size w W → Calls Try.prog 70 #[] W fun e w' => ∃ A' c', e = .returned (.slice A' (partsF 1 zi ze zg f h).length c') ∧ Reads w' w'.heap.size 6 A' (partsF 1 zi ze zg f h).length (nds (partsF 1 zi ze zg f h)) ∧ Below W.heap.size W w') := Lib.hid (fun W hb => by
    rw [show partsF 1 zi ze zg f h = buildF ⟨1, 0, 0, 0, 0, 0⟩ [] from rfl]
    exact pTrue_any W)
  have HB0 : Hid (Below w.heap.size w (w.alloc (.cells #[.int .i64 1, .int .i64 zi, .int .i64 ze, .int .i64 zg, .slice Af nf cf, .slice Ah nh ch] 35))) := Lib.hid ((Below.refl _ w).alloc (Nat.le_refl _) _)
  generalize partsF 1 zi ze zg f h = q at *
  clear _hRf _hRh
  go_enter Try.func38, Try.ntmps38
  go_wp2_with fail
  refine (HC.out _ HB0.out).mono ?_
  rintro e w2 ⟨A', c', rfl, hR2, hb2⟩
  have HR2 := Lib.hid hR2
  have HB2 := Lib.hid (HB0.out.trans (hb2.mono HB0.out.size))
  clear hR2 hb2
  go_wp2
  go_ret
  exact ⟨A', c', rfl, HR2.out, HB2.out⟩
set_option maxRecDepth 100000 in
theorem con_2 (zi ze zg : Int) (f : List Nd) (Af : Option Addr) (nf cf : Nat) (h : List Nd) (Ah : Option Addr) (nh ch : Nat) (w : World) (_hRf : Reads w w.heap.size 6 Af nf (nds f)) (_hmf : nf ≤ maxLen) (_hRh : Reads w w.heap.size 6 Ah nh (nds h)) (_hmh : nh ≤ maxLen) :
    Calls Try.prog 38 #[.agg #[.int .i64 2, .int .i64 zi, .int .i64 ze, .int .i64 zg, .slice Af nf cf, .slice Ah nh ch]] w fun e w' => ∃ A' c', e = .returned (.slice A' (partsF 2 zi ze zg f h).length c') ∧ Reads w' w'.heap.size 6 A' (partsF 2 zi ze zg f h).length (nds (partsF 2 zi ze zg f h)) ∧ Below w.heap.size w w' := by
  have HC : Hid (∀ W, Below w.heap.size w W → Calls Try.prog 71 #[] W fun e w' => ∃ A' c', e = .returned (.slice A' (partsF 2 zi ze zg f h).length c') ∧ Reads w' w'.heap.size 6 A' (partsF 2 zi ze zg f h).length (nds (partsF 2 zi ze zg f h)) ∧ Below W.heap.size W w') := Lib.hid (fun W hb => by
    rw [show partsF 2 zi ze zg f h = buildF ⟨2, 0, 0, 0, 0, 0⟩ [] from rfl]
    exact pFalse_any W)
  have HB0 : Hid (Below w.heap.size w (w.alloc (.cells #[.int .i64 2, .int .i64 zi, .int .i64 ze, .int .i64 zg, .slice Af nf cf, .slice Ah nh ch] 35))) := Lib.hid ((Below.refl _ w).alloc (Nat.le_refl _) _)
  generalize partsF 2 zi ze zg f h = q at *
  clear _hRf _hRh
  go_enter Try.func38, Try.ntmps38
  go_wp2_with fail
  refine (HC.out _ HB0.out).mono ?_
  rintro e w2 ⟨A', c', rfl, hR2, hb2⟩
  have HR2 := Lib.hid hR2
  have HB2 := Lib.hid (HB0.out.trans (hb2.mono HB0.out.size))
  clear hR2 hb2
  go_wp2
  go_ret
  exact ⟨A', c', rfl, HR2.out, HB2.out⟩
set_option maxRecDepth 100000 in
theorem con_3 (zi ze zg : Int) (f : List Nd) (Af : Option Addr) (nf cf : Nat) (h : List Nd) (Ah : Option Addr) (nh ch : Nat) (w : World) (_hRf : Reads w w.heap.size 6 Af nf (nds f)) (_hmf : nf ≤ maxLen) (_hRh : Reads w w.heap.size 6 Ah nh (nds h)) (_hmh : nh ≤ maxLen) :
    Calls Try.prog 38 #[.agg #[.int .i64 3, .int .i64 zi, .int .i64 ze, .int .i64 zg, .slice Af nf cf, .slice Ah nh ch]] w fun e w' => ∃ A' c', e = .returned (.slice A' (partsF 3 zi ze zg f h).length c') ∧ Reads w' w'.heap.size 6 A' (partsF 3 zi ze zg f h).length (nds (partsF 3 zi ze zg f h)) ∧ Below w.heap.size w w' := by
  have HC : Hid (∀ W, Below w.heap.size w W → Calls Try.prog 50 #[.int .i64 zi] W fun e w' => ∃ A' c', e = .returned (.slice A' (partsF 3 zi ze zg f h).length c') ∧ Reads w' w'.heap.size 6 A' (partsF 3 zi ze zg f h).length (nds (partsF 3 zi ze zg f h)) ∧ Below W.heap.size W w') := Lib.hid (fun W hb => by
    rw [show partsF 3 zi ze zg f h = buildF ⟨3, zi, 0, 0, 0, 0⟩ [] from rfl]
    exact pFact_any zi W)
  have HB0 : Hid (Below w.heap.size w (w.alloc (.cells #[.int .i64 3, .int .i64 zi, .int .i64 ze, .int .i64 zg, .slice Af nf cf, .slice Ah nh ch] 35))) := Lib.hid ((Below.refl _ w).alloc (Nat.le_refl _) _)
  generalize partsF 3 zi ze zg f h = q at *
  clear _hRf _hRh
  go_enter Try.func38, Try.ntmps38
  go_wp2_with fail
  refine (HC.out _ HB0.out).mono ?_
  rintro e w2 ⟨A', c', rfl, hR2, hb2⟩
  have HR2 := Lib.hid hR2
  have HB2 := Lib.hid (HB0.out.trans (hb2.mono HB0.out.size))
  clear hR2 hb2
  go_wp2
  go_ret
  exact ⟨A', c', rfl, HR2.out, HB2.out⟩
set_option maxRecDepth 100000 in
theorem con_4 (zi ze zg : Int) (f : List Nd) (Af : Option Addr) (nf cf : Nat) (h : List Nd) (Ah : Option Addr) (nh ch : Nat) (w : World) (hRf : Reads w w.heap.size 6 Af nf (nds f)) (hmf : nf ≤ maxLen) (_hRh : Reads w w.heap.size 6 Ah nh (nds h)) (_hmh : nh ≤ maxLen) :
    Calls Try.prog 38 #[.agg #[.int .i64 4, .int .i64 zi, .int .i64 ze, .int .i64 zg, .slice Af nf cf, .slice Ah nh ch]] w fun e w' => ∃ A' c', e = .returned (.slice A' (partsF 4 zi ze zg f h).length c') ∧ Reads w' w'.heap.size 6 A' (partsF 4 zi ze zg f h).length (nds (partsF 4 zi ze zg f h)) ∧ Below w.heap.size w w' := by
  have HC : Hid (∀ W, Below w.heap.size w W → Calls Try.prog 72 #[.slice Af nf cf] W fun e w' => ∃ A' c', e = .returned (.slice A' (partsF 4 zi ze zg f h).length c') ∧ Reads w' w'.heap.size 6 A' (partsF 4 zi ze zg f h).length (nds (partsF 4 zi ze zg f h)) ∧ Below W.heap.size W w') := Lib.hid (fun W hb => by
    rw [show partsF 4 zi ze zg f h = buildF ⟨4, 0, 0, 0, 0, 0⟩ [f] from rfl]
    exact pNot_any f Af nf cf W ((hRf.below hb).more hb.size) hmf)
  have HB0 : Hid (Below w.heap.size w (w.alloc (.cells #[.int .i64 4, .int .i64 zi, .int .i64 ze, .int .i64 zg, .slice Af nf cf, .slice Ah nh ch] 35))) := Lib.hid ((Below.refl _ w).alloc (Nat.le_refl _) _)
  generalize partsF 4 zi ze zg f h = q at *
  clear hRf _hRh
  go_enter Try.func38, Try.ntmps38
  go_wp2_with fail
  refine (HC.out _ HB0.out).mono ?_
  rintro e w2 ⟨A', c', rfl, hR2, hb2⟩
  have HR2 := Lib.hid hR2
  have HB2 := Lib.hid (HB0.out.trans (hb2.mono HB0.out.size))
  clear hR2 hb2
  go_wp2
  go_ret
  exact ⟨A', c', rfl, HR2.out, HB2.out⟩
set_option maxRecDepth 100000 in
theorem con_5 (zi ze zg : Int) (f : List Nd) (Af : Option Addr) (nf cf : Nat) (h : List Nd) (Ah : Option Addr) (nh ch : Nat) (w : World) (hRf : Reads w w.heap.size 6 Af nf (nds f)) (hmf : nf ≤ maxLen) (hRh : Reads w w.heap.size 6 Ah nh (nds h)) (hmh : nh ≤ maxLen) :
    Calls Try.prog 38 #[.agg #[.int .i64 5, .int .i64 zi, .int .i64 ze, .int .i64 zg, .slice Af nf cf, .slice Ah nh ch]] w fun e w' => ∃ A' c', e = .returned (.slice A' (partsF 5 zi ze zg f h).length c') ∧ Reads w' w'.heap.size 6 A' (partsF 5 zi ze zg f h).length (nds (partsF 5 zi ze zg f h)) ∧ Below w.heap.size w w' := by
  have HC : Hid (∀ W, Below w.heap.size w W → Calls Try.prog 49 #[.slice Af nf cf, .slice Ah nh ch] W fun e w' => ∃ A' c', e = .returned (.slice A' (partsF 5 zi ze zg f h).length c') ∧ Reads w' w'.heap.size 6 A' (partsF 5 zi ze zg f h).length (nds (partsF 5 zi ze zg f h)) ∧ Below W.heap.size W w') := Lib.hid (fun W hb => by
    rw [show partsF 5 zi ze zg f h = buildF ⟨5, 0, 0, 0, 0, 0⟩ [f, h] from rfl]
    exact pAnd_any f Af nf cf h Ah nh ch W ((hRf.below hb).more hb.size) hmf ((hRh.below hb).more hb.size) hmh)
  have HB0 : Hid (Below w.heap.size w (w.alloc (.cells #[.int .i64 5, .int .i64 zi, .int .i64 ze, .int .i64 zg, .slice Af nf cf, .slice Ah nh ch] 35))) := Lib.hid ((Below.refl _ w).alloc (Nat.le_refl _) _)
  generalize partsF 5 zi ze zg f h = q at *
  clear hRf hRh
  go_enter Try.func38, Try.ntmps38
  go_wp2_with fail
  refine (HC.out _ HB0.out).mono ?_
  rintro e w2 ⟨A', c', rfl, hR2, hb2⟩
  have HR2 := Lib.hid hR2
  have HB2 := Lib.hid (HB0.out.trans (hb2.mono HB0.out.size))
  clear hR2 hb2
  go_wp2
  go_ret
  exact ⟨A', c', rfl, HR2.out, HB2.out⟩
set_option maxRecDepth 100000 in
theorem con_6 (zi ze zg : Int) (f : List Nd) (Af : Option Addr) (nf cf : Nat) (h : List Nd) (Ah : Option Addr) (nh ch : Nat) (w : World) (hRf : Reads w w.heap.size 6 Af nf (nds f)) (hmf : nf ≤ maxLen) (hRh : Reads w w.heap.size 6 Ah nh (nds h)) (hmh : nh ≤ maxLen) :
    Calls Try.prog 38 #[.agg #[.int .i64 6, .int .i64 zi, .int .i64 ze, .int .i64 zg, .slice Af nf cf, .slice Ah nh ch]] w fun e w' => ∃ A' c', e = .returned (.slice A' (partsF 6 zi ze zg f h).length c') ∧ Reads w' w'.heap.size 6 A' (partsF 6 zi ze zg f h).length (nds (partsF 6 zi ze zg f h)) ∧ Below w.heap.size w w' := by
  have HC : Hid (∀ W, Below w.heap.size w W → Calls Try.prog 47 #[.slice Af nf cf, .slice Ah nh ch] W fun e w' => ∃ A' c', e = .returned (.slice A' (partsF 6 zi ze zg f h).length c') ∧ Reads w' w'.heap.size 6 A' (partsF 6 zi ze zg f h).length (nds (partsF 6 zi ze zg f h)) ∧ Below W.heap.size W w') := Lib.hid (fun W hb => by
    rw [show partsF 6 zi ze zg f h = buildF ⟨6, 0, 0, 0, 0, 0⟩ [f, h] from rfl]
    exact pOr_any f Af nf cf h Ah nh ch W ((hRf.below hb).more hb.size) hmf ((hRh.below hb).more hb.size) hmh)
  have HB0 : Hid (Below w.heap.size w (w.alloc (.cells #[.int .i64 6, .int .i64 zi, .int .i64 ze, .int .i64 zg, .slice Af nf cf, .slice Ah nh ch] 35))) := Lib.hid ((Below.refl _ w).alloc (Nat.le_refl _) _)
  generalize partsF 6 zi ze zg f h = q at *
  clear hRf hRh
  go_enter Try.func38, Try.ntmps38
  go_wp2_with fail
  refine (HC.out _ HB0.out).mono ?_
  rintro e w2 ⟨A', c', rfl, hR2, hb2⟩
  have HR2 := Lib.hid hR2
  have HB2 := Lib.hid (HB0.out.trans (hb2.mono HB0.out.size))
  clear hR2 hb2
  go_wp2
  go_ret
  exact ⟨A', c', rfl, HR2.out, HB2.out⟩
set_option maxRecDepth 100000 in
theorem con_7 (zi ze zg : Int) (f : List Nd) (Af : Option Addr) (nf cf : Nat) (h : List Nd) (Ah : Option Addr) (nh ch : Nat) (w : World) (hRf : Reads w w.heap.size 6 Af nf (nds f)) (hmf : nf ≤ maxLen) (hRh : Reads w w.heap.size 6 Ah nh (nds h)) (hmh : nh ≤ maxLen) :
    Calls Try.prog 38 #[.agg #[.int .i64 7, .int .i64 zi, .int .i64 ze, .int .i64 zg, .slice Af nf cf, .slice Ah nh ch]] w fun e w' => ∃ A' c', e = .returned (.slice A' (partsF 7 zi ze zg f h).length c') ∧ Reads w' w'.heap.size 6 A' (partsF 7 zi ze zg f h).length (nds (partsF 7 zi ze zg f h)) ∧ Below w.heap.size w w' := by
  have HC : Hid (∀ W, Below w.heap.size w W → Calls Try.prog 73 #[.slice Af nf cf, .slice Ah nh ch] W fun e w' => ∃ A' c', e = .returned (.slice A' (partsF 7 zi ze zg f h).length c') ∧ Reads w' w'.heap.size 6 A' (partsF 7 zi ze zg f h).length (nds (partsF 7 zi ze zg f h)) ∧ Below W.heap.size W w') := Lib.hid (fun W hb => by
    rw [show partsF 7 zi ze zg f h = buildF ⟨7, 0, 0, 0, 0, 0⟩ [f, h] from rfl]
    exact pImp_any f Af nf cf h Ah nh ch W ((hRf.below hb).more hb.size) hmf ((hRh.below hb).more hb.size) hmh)
  have HB0 : Hid (Below w.heap.size w (w.alloc (.cells #[.int .i64 7, .int .i64 zi, .int .i64 ze, .int .i64 zg, .slice Af nf cf, .slice Ah nh ch] 35))) := Lib.hid ((Below.refl _ w).alloc (Nat.le_refl _) _)
  generalize partsF 7 zi ze zg f h = q at *
  clear hRf hRh
  go_enter Try.func38, Try.ntmps38
  go_wp2_with fail
  refine (HC.out _ HB0.out).mono ?_
  rintro e w2 ⟨A', c', rfl, hR2, hb2⟩
  have HR2 := Lib.hid hR2
  have HB2 := Lib.hid (HB0.out.trans (hb2.mono HB0.out.size))
  clear hR2 hb2
  go_wp2
  go_ret
  exact ⟨A', c', rfl, HR2.out, HB2.out⟩
set_option maxRecDepth 100000 in
theorem con_8 (zi ze zg : Int) (f : List Nd) (Af : Option Addr) (nf cf : Nat) (h : List Nd) (Ah : Option Addr) (nh ch : Nat) (w : World) (hRf : Reads w w.heap.size 6 Af nf (nds f)) (hmf : nf ≤ maxLen) (hRh : Reads w w.heap.size 6 Ah nh (nds h)) (hmh : nh ≤ maxLen) :
    Calls Try.prog 38 #[.agg #[.int .i64 8, .int .i64 zi, .int .i64 ze, .int .i64 zg, .slice Af nf cf, .slice Ah nh ch]] w fun e w' => ∃ A' c', e = .returned (.slice A' (partsF 8 zi ze zg f h).length c') ∧ Reads w' w'.heap.size 6 A' (partsF 8 zi ze zg f h).length (nds (partsF 8 zi ze zg f h)) ∧ Below w.heap.size w w' := by
  have HC : Hid (∀ W, Below w.heap.size w W → Calls Try.prog 74 #[.slice Af nf cf, .slice Ah nh ch] W fun e w' => ∃ A' c', e = .returned (.slice A' (partsF 8 zi ze zg f h).length c') ∧ Reads w' w'.heap.size 6 A' (partsF 8 zi ze zg f h).length (nds (partsF 8 zi ze zg f h)) ∧ Below W.heap.size W w') := Lib.hid (fun W hb => by
    rw [show partsF 8 zi ze zg f h = buildF ⟨8, 0, 0, 0, 0, 0⟩ [f, h] from rfl]
    exact pIff_any f Af nf cf h Ah nh ch W ((hRf.below hb).more hb.size) hmf ((hRh.below hb).more hb.size) hmh)
  have HB0 : Hid (Below w.heap.size w (w.alloc (.cells #[.int .i64 8, .int .i64 zi, .int .i64 ze, .int .i64 zg, .slice Af nf cf, .slice Ah nh ch] 35))) := Lib.hid ((Below.refl _ w).alloc (Nat.le_refl _) _)
  generalize partsF 8 zi ze zg f h = q at *
  clear hRf hRh
  go_enter Try.func38, Try.ntmps38
  go_wp2_with fail
  refine (HC.out _ HB0.out).mono ?_
  rintro e w2 ⟨A', c', rfl, hR2, hb2⟩
  have HR2 := Lib.hid hR2
  have HB2 := Lib.hid (HB0.out.trans (hb2.mono HB0.out.size))
  clear hR2 hb2
  go_wp2
  go_ret
  exact ⟨A', c', rfl, HR2.out, HB2.out⟩
set_option maxRecDepth 100000 in
theorem con_9 (zi ze zg : Int) (f : List Nd) (Af : Option Addr) (nf cf : Nat) (h : List Nd) (Ah : Option Addr) (nh ch : Nat) (w : World) (hRf : Reads w w.heap.size 6 Af nf (nds f)) (hmf : nf ≤ maxLen) (_hRh : Reads w w.heap.size 6 Ah nh (nds h)) (_hmh : nh ≤ maxLen) :
    Calls Try.prog 38 #[.agg #[.int .i64 9, .int .i64 zi, .int .i64 ze, .int .i64 zg, .slice Af nf cf, .slice Ah nh ch]] w fun e w' => ∃ A' c', e = .returned (.slice A' (partsF 9 zi ze zg f h).length c') ∧ Reads w' w'.heap.size 6 A' (partsF 9 zi ze zg f h).length (nds (partsF 9 zi ze zg f h)) ∧ Below w.heap.size w w' := by
  have HC : Hid (∀ W, Below w.heap.size w W → Calls Try.prog 48 #[.int .i64 zi, .slice Af nf cf] W fun e w' => ∃ A' c', e = .returned (.slice A' (partsF 9 zi ze zg f h).length c') ∧ Reads w' w'.heap.size 6 A' (partsF 9 zi ze zg f h).length (nds (partsF 9 zi ze zg f h)) ∧ Below W.heap.size W w') := Lib.hid (fun W hb => by
    rw [show partsF 9 zi ze zg f h = buildF ⟨9, zi, 0, 0, 0, 0⟩ [f] from rfl]
    exact pKnow_any zi f Af nf cf W ((hRf.below hb).more hb.size) hmf)
  have HB0 : Hid (Below w.heap.size w (w.alloc (.cells #[.int .i64 9, .int .i64 zi, .int .i64 ze, .int .i64 zg, .slice Af nf cf, .slice Ah nh ch] 35))) := Lib.hid ((Below.refl _ w).alloc (Nat.le_refl _) _)
  generalize partsF 9 zi ze zg f h = q at *
  clear hRf _hRh
  go_enter Try.func38, Try.ntmps38
  go_wp2_with fail
  refine (HC.out _ HB0.out).mono ?_
  rintro e w2 ⟨A', c', rfl, hR2, hb2⟩
  have HR2 := Lib.hid hR2
  have HB2 := Lib.hid (HB0.out.trans (hb2.mono HB0.out.size))
  clear hR2 hb2
  go_wp2
  go_ret
  exact ⟨A', c', rfl, HR2.out, HB2.out⟩
set_option maxRecDepth 100000 in
theorem con_10 (zi ze zg : Int) (f : List Nd) (Af : Option Addr) (nf cf : Nat) (h : List Nd) (Ah : Option Addr) (nh ch : Nat) (w : World) (hRf : Reads w w.heap.size 6 Af nf (nds f)) (hmf : nf ≤ maxLen) (_hRh : Reads w w.heap.size 6 Ah nh (nds h)) (_hmh : nh ≤ maxLen) :
    Calls Try.prog 38 #[.agg #[.int .i64 10, .int .i64 zi, .int .i64 ze, .int .i64 zg, .slice Af nf cf, .slice Ah nh ch]] w fun e w' => ∃ A' c', e = .returned (.slice A' (partsF 10 zi ze zg f h).length c') ∧ Reads w' w'.heap.size 6 A' (partsF 10 zi ze zg f h).length (nds (partsF 10 zi ze zg f h)) ∧ Below w.heap.size w w' := by
  have HC : Hid (∀ W, Below w.heap.size w W → Calls Try.prog 75 #[.int .i64 zi, .slice Af nf cf] W fun e w' => ∃ A' c', e = .returned (.slice A' (partsF 10 zi ze zg f h).length c') ∧ Reads w' w'.heap.size 6 A' (partsF 10 zi ze zg f h).length (nds (partsF 10 zi ze zg f h)) ∧ Below W.heap.size W w') := Lib.hid (fun W hb => by
    rw [show partsF 10 zi ze zg f h = buildF ⟨10, zi, 0, 0, 0, 0⟩ [f] from rfl]
    exact pPoss_any zi f Af nf cf W ((hRf.below hb).more hb.size) hmf)
  have HB0 : Hid (Below w.heap.size w (w.alloc (.cells #[.int .i64 10, .int .i64 zi, .int .i64 ze, .int .i64 zg, .slice Af nf cf, .slice Ah nh ch] 35))) := Lib.hid ((Below.refl _ w).alloc (Nat.le_refl _) _)
  generalize partsF 10 zi ze zg f h = q at *
  clear hRf _hRh
  go_enter Try.func38, Try.ntmps38
  go_wp2_with fail
  refine (HC.out _ HB0.out).mono ?_
  rintro e w2 ⟨A', c', rfl, hR2, hb2⟩
  have HR2 := Lib.hid hR2
  have HB2 := Lib.hid (HB0.out.trans (hb2.mono HB0.out.size))
  clear hR2 hb2
  go_wp2
  go_ret
  exact ⟨A', c', rfl, HR2.out, HB2.out⟩
set_option maxRecDepth 100000 in
theorem con_11 (zi ze zg : Int) (f : List Nd) (Af : Option Addr) (nf cf : Nat) (h : List Nd) (Ah : Option Addr) (nh ch : Nat) (w : World) (hRf : Reads w w.heap.size 6 Af nf (nds f)) (hmf : nf ≤ maxLen) (_hRh : Reads w w.heap.size 6 Ah nh (nds h)) (_hmh : nh ≤ maxLen) :
    Calls Try.prog 38 #[.agg #[.int .i64 11, .int .i64 zi, .int .i64 ze, .int .i64 zg, .slice Af nf cf, .slice Ah nh ch]] w fun e w' => ∃ A' c', e = .returned (.slice A' (partsF 11 zi ze zg f h).length c') ∧ Reads w' w'.heap.size 6 A' (partsF 11 zi ze zg f h).length (nds (partsF 11 zi ze zg f h)) ∧ Below w.heap.size w w' := by
  have HC : Hid (∀ W, Below w.heap.size w W → Calls Try.prog 76 #[.int .i64 zg, .slice Af nf cf] W fun e w' => ∃ A' c', e = .returned (.slice A' (partsF 11 zi ze zg f h).length c') ∧ Reads w' w'.heap.size 6 A' (partsF 11 zi ze zg f h).length (nds (partsF 11 zi ze zg f h)) ∧ Below W.heap.size W w') := Lib.hid (fun W hb => by
    rw [show partsF 11 zi ze zg f h = buildF ⟨11, 0, 0, zg, 0, 0⟩ [f] from rfl]
    exact pEvery_any zg f Af nf cf W ((hRf.below hb).more hb.size) hmf)
  have HB0 : Hid (Below w.heap.size w (w.alloc (.cells #[.int .i64 11, .int .i64 zi, .int .i64 ze, .int .i64 zg, .slice Af nf cf, .slice Ah nh ch] 35))) := Lib.hid ((Below.refl _ w).alloc (Nat.le_refl _) _)
  generalize partsF 11 zi ze zg f h = q at *
  clear hRf _hRh
  go_enter Try.func38, Try.ntmps38
  go_wp2_with fail
  refine (HC.out _ HB0.out).mono ?_
  rintro e w2 ⟨A', c', rfl, hR2, hb2⟩
  have HR2 := Lib.hid hR2
  have HB2 := Lib.hid (HB0.out.trans (hb2.mono HB0.out.size))
  clear hR2 hb2
  go_wp2
  go_ret
  exact ⟨A', c', rfl, HR2.out, HB2.out⟩
set_option maxRecDepth 100000 in
theorem con_12 (zi ze zg : Int) (f : List Nd) (Af : Option Addr) (nf cf : Nat) (h : List Nd) (Ah : Option Addr) (nh ch : Nat) (w : World) (hRf : Reads w w.heap.size 6 Af nf (nds f)) (hmf : nf ≤ maxLen) (_hRh : Reads w w.heap.size 6 Ah nh (nds h)) (_hmh : nh ≤ maxLen) :
    Calls Try.prog 77 #[.agg #[.int .i64 12, .int .i64 zi, .int .i64 ze, .int .i64 zg, .slice Af nf cf, .slice Ah nh ch]] w fun e w' => ∃ A' c', e = .returned (.slice A' (partsF 12 zi ze zg f h).length c') ∧ Reads w' w'.heap.size 6 A' (partsF 12 zi ze zg f h).length (nds (partsF 12 zi ze zg f h)) ∧ Below w.heap.size w w' := by
  have HC : Hid (∀ W, Below w.heap.size w W → Calls Try.prog 97 #[.int .i64 zg, .slice Af nf cf] W fun e w' => ∃ A' c', e = .returned (.slice A' (partsF 12 zi ze zg f h).length c') ∧ Reads w' w'.heap.size 6 A' (partsF 12 zi ze zg f h).length (nds (partsF 12 zi ze zg f h)) ∧ Below W.heap.size W w') := Lib.hid (fun W hb => by
    rw [show partsF 12 zi ze zg f h = buildF ⟨12, 0, 0, zg, 0, 0⟩ [f] from rfl]
    exact pDist_any zg f Af nf cf W ((hRf.below hb).more hb.size) hmf)
  have HB0 : Hid (Below w.heap.size w (w.alloc (.cells #[.int .i64 12, .int .i64 zi, .int .i64 ze, .int .i64 zg, .slice Af nf cf, .slice Ah nh ch] 35))) := Lib.hid ((Below.refl _ w).alloc (Nat.le_refl _) _)
  generalize partsF 12 zi ze zg f h = q at *
  clear hRf _hRh
  go_enter Try.func77, Try.ntmps77
  go_wp2_with fail
  refine (HC.out _ HB0.out).mono ?_
  rintro e w2 ⟨A', c', rfl, hR2, hb2⟩
  have HR2 := Lib.hid hR2
  have HB2 := Lib.hid (HB0.out.trans (hb2.mono HB0.out.size))
  clear hR2 hb2
  go_wp2
  go_ret
  exact ⟨A', c', rfl, HR2.out, HB2.out⟩
set_option maxRecDepth 100000 in
theorem con_13 (zi ze zg : Int) (f : List Nd) (Af : Option Addr) (nf cf : Nat) (h : List Nd) (Ah : Option Addr) (nh ch : Nat) (w : World) (hRf : Reads w w.heap.size 6 Af nf (nds f)) (hmf : nf ≤ maxLen) (hRh : Reads w w.heap.size 6 Ah nh (nds h)) (hmh : nh ≤ maxLen) :
    Calls Try.prog 77 #[.agg #[.int .i64 13, .int .i64 zi, .int .i64 ze, .int .i64 zg, .slice Af nf cf, .slice Ah nh ch]] w fun e w' => ∃ A' c', e = .returned (.slice A' (partsF 13 zi ze zg f h).length c') ∧ Reads w' w'.heap.size 6 A' (partsF 13 zi ze zg f h).length (nds (partsF 13 zi ze zg f h)) ∧ Below w.heap.size w w' := by
  have HC : Hid (∀ W, Below w.heap.size w W → Calls Try.prog 98 #[.int .i64 zg, .slice Af nf cf, .slice Ah nh ch] W fun e w' => ∃ A' c', e = .returned (.slice A' (partsF 13 zi ze zg f h).length c') ∧ Reads w' w'.heap.size 6 A' (partsF 13 zi ze zg f h).length (nds (partsF 13 zi ze zg f h)) ∧ Below W.heap.size W w') := Lib.hid (fun W hb => by
    rw [show partsF 13 zi ze zg f h = buildF ⟨13, 0, 0, zg, 0, 0⟩ [f, h] from rfl]
    exact pCommon_any zg f Af nf cf h Ah nh ch W ((hRf.below hb).more hb.size) hmf ((hRh.below hb).more hb.size) hmh)
  have HB0 : Hid (Below w.heap.size w (w.alloc (.cells #[.int .i64 13, .int .i64 zi, .int .i64 ze, .int .i64 zg, .slice Af nf cf, .slice Ah nh ch] 35))) := Lib.hid ((Below.refl _ w).alloc (Nat.le_refl _) _)
  generalize partsF 13 zi ze zg f h = q at *
  clear hRf hRh
  go_enter Try.func77, Try.ntmps77
  go_wp2_with fail
  refine (HC.out _ HB0.out).mono ?_
  rintro e w2 ⟨A', c', rfl, hR2, hb2⟩
  have HR2 := Lib.hid hR2
  have HB2 := Lib.hid (HB0.out.trans (hb2.mono HB0.out.size))
  clear hR2 hb2
  go_wp2
  go_ret
  exact ⟨A', c', rfl, HR2.out, HB2.out⟩
set_option maxRecDepth 100000 in
theorem con_14 (zi ze zg : Int) (f : List Nd) (Af : Option Addr) (nf cf : Nat) (h : List Nd) (Ah : Option Addr) (nh ch : Nat) (w : World) (hRf : Reads w w.heap.size 6 Af nf (nds f)) (hmf : nf ≤ maxLen) (hRh : Reads w w.heap.size 6 Ah nh (nds h)) (hmh : nh ≤ maxLen) :
    Calls Try.prog 77 #[.agg #[.int .i64 14, .int .i64 zi, .int .i64 ze, .int .i64 zg, .slice Af nf cf, .slice Ah nh ch]] w fun e w' => ∃ A' c', e = .returned (.slice A' (partsF 14 zi ze zg f h).length c') ∧ Reads w' w'.heap.size 6 A' (partsF 14 zi ze zg f h).length (nds (partsF 14 zi ze zg f h)) ∧ Below w.heap.size w w' := by
  have HC : Hid (∀ W, Below w.heap.size w W → Calls Try.prog 99 #[.int .i64 zi, .slice Af nf cf, .slice Ah nh ch] W fun e w' => ∃ A' c', e = .returned (.slice A' (partsF 14 zi ze zg f h).length c') ∧ Reads w' w'.heap.size 6 A' (partsF 14 zi ze zg f h).length (nds (partsF 14 zi ze zg f h)) ∧ Below W.heap.size W w') := Lib.hid (fun W hb => by
    rw [show partsF 14 zi ze zg f h = buildF ⟨14, zi, 0, 0, 0, 0⟩ [f, h] from rfl]
    exact pBelief_any zi f Af nf cf h Ah nh ch W ((hRf.below hb).more hb.size) hmf ((hRh.below hb).more hb.size) hmh)
  have HB0 : Hid (Below w.heap.size w (w.alloc (.cells #[.int .i64 14, .int .i64 zi, .int .i64 ze, .int .i64 zg, .slice Af nf cf, .slice Ah nh ch] 35))) := Lib.hid ((Below.refl _ w).alloc (Nat.le_refl _) _)
  generalize partsF 14 zi ze zg f h = q at *
  clear hRf hRh
  go_enter Try.func77, Try.ntmps77
  go_wp2_with fail
  refine (HC.out _ HB0.out).mono ?_
  rintro e w2 ⟨A', c', rfl, hR2, hb2⟩
  have HR2 := Lib.hid hR2
  have HB2 := Lib.hid (HB0.out.trans (hb2.mono HB0.out.size))
  clear hR2 hb2
  go_wp2
  go_ret
  exact ⟨A', c', rfl, HR2.out, HB2.out⟩
set_option maxRecDepth 100000 in
theorem con_15 (zi ze zg : Int) (f : List Nd) (Af : Option Addr) (nf cf : Nat) (h : List Nd) (Ah : Option Addr) (nh ch : Nat) (w : World) (hRf : Reads w w.heap.size 6 Af nf (nds f)) (hmf : nf ≤ maxLen) (_hRh : Reads w w.heap.size 6 Ah nh (nds h)) (_hmh : nh ≤ maxLen) :
    Calls Try.prog 77 #[.agg #[.int .i64 15, .int .i64 zi, .int .i64 ze, .int .i64 zg, .slice Af nf cf, .slice Ah nh ch]] w fun e w' => ∃ A' c', e = .returned (.slice A' (partsF 15 zi ze zg f h).length c') ∧ Reads w' w'.heap.size 6 A' (partsF 15 zi ze zg f h).length (nds (partsF 15 zi ze zg f h)) ∧ Below w.heap.size w w' := by
  have HC : Hid (∀ W, Below w.heap.size w W → Calls Try.prog 100 #[.int .i64 zi, .slice Af nf cf] W fun e w' => ∃ A' c', e = .returned (.slice A' (partsF 15 zi ze zg f h).length c') ∧ Reads w' w'.heap.size 6 A' (partsF 15 zi ze zg f h).length (nds (partsF 15 zi ze zg f h)) ∧ Below W.heap.size W w') := Lib.hid (fun W hb => by
    rw [show partsF 15 zi ze zg f h = buildF ⟨15, zi, 0, 0, 0, 0⟩ [f] from rfl]
    exact pSafe_any zi f Af nf cf W ((hRf.below hb).more hb.size) hmf)
  have HB0 : Hid (Below w.heap.size w (w.alloc (.cells #[.int .i64 15, .int .i64 zi, .int .i64 ze, .int .i64 zg, .slice Af nf cf, .slice Ah nh ch] 35))) := Lib.hid ((Below.refl _ w).alloc (Nat.le_refl _) _)
  generalize partsF 15 zi ze zg f h = q at *
  clear hRf _hRh
  go_enter Try.func77, Try.ntmps77
  go_wp2_with fail
  refine (HC.out _ HB0.out).mono ?_
  rintro e w2 ⟨A', c', rfl, hR2, hb2⟩
  have HR2 := Lib.hid hR2
  have HB2 := Lib.hid (HB0.out.trans (hb2.mono HB0.out.size))
  clear hR2 hb2
  go_wp2
  go_ret
  exact ⟨A', c', rfl, HR2.out, HB2.out⟩
set_option maxRecDepth 100000 in
theorem con_16 (zi ze zg : Int) (f : List Nd) (Af : Option Addr) (nf cf : Nat) (h : List Nd) (Ah : Option Addr) (nh ch : Nat) (w : World) (hRf : Reads w w.heap.size 6 Af nf (nds f)) (hmf : nf ≤ maxLen) (hRh : Reads w w.heap.size 6 Ah nh (nds h)) (hmh : nh ≤ maxLen) :
    Calls Try.prog 77 #[.agg #[.int .i64 16, .int .i64 zi, .int .i64 ze, .int .i64 zg, .slice Af nf cf, .slice Ah nh ch]] w fun e w' => ∃ A' c', e = .returned (.slice A' (partsF 16 zi ze zg f h).length c') ∧ Reads w' w'.heap.size 6 A' (partsF 16 zi ze zg f h).length (nds (partsF 16 zi ze zg f h)) ∧ Below w.heap.size w w' := by
  have HC : Hid (∀ W, Below w.heap.size w W → Calls Try.prog 101 #[.slice Af nf cf, .slice Ah nh ch] W fun e w' => ∃ A' c', e = .returned (.slice A' (partsF 16 zi ze zg f h).length c') ∧ Reads w' w'.heap.size 6 A' (partsF 16 zi ze zg f h).length (nds (partsF 16 zi ze zg f h)) ∧ Below W.heap.size W w') := Lib.hid (fun W hb => by
    rw [show partsF 16 zi ze zg f h = buildF ⟨16, 0, 0, 0, 0, 0⟩ [f, h] from rfl]
    exact pAnnounce_any f Af nf cf h Ah nh ch W ((hRf.below hb).more hb.size) hmf ((hRh.below hb).more hb.size) hmh)
  have HB0 : Hid (Below w.heap.size w (w.alloc (.cells #[.int .i64 16, .int .i64 zi, .int .i64 ze, .int .i64 zg, .slice Af nf cf, .slice Ah nh ch] 35))) := Lib.hid ((Below.refl _ w).alloc (Nat.le_refl _) _)
  generalize partsF 16 zi ze zg f h = q at *
  clear hRf hRh
  go_enter Try.func77, Try.ntmps77
  go_wp2_with fail
  refine (HC.out _ HB0.out).mono ?_
  rintro e w2 ⟨A', c', rfl, hR2, hb2⟩
  have HR2 := Lib.hid hR2
  have HB2 := Lib.hid (HB0.out.trans (hb2.mono HB0.out.size))
  clear hR2 hb2
  go_wp2
  go_ret
  exact ⟨A', c', rfl, HR2.out, HB2.out⟩
set_option maxRecDepth 100000 in
theorem con_17 (zi ze zg : Int) (f : List Nd) (Af : Option Addr) (nf cf : Nat) (h : List Nd) (Ah : Option Addr) (nh ch : Nat) (w : World) (hRf : Reads w w.heap.size 6 Af nf (nds f)) (hmf : nf ≤ maxLen) (_hRh : Reads w w.heap.size 6 Ah nh (nds h)) (_hmh : nh ≤ maxLen) :
    Calls Try.prog 77 #[.agg #[.int .i64 17, .int .i64 zi, .int .i64 ze, .int .i64 zg, .slice Af nf cf, .slice Ah nh ch]] w fun e w' => ∃ A' c', e = .returned (.slice A' (partsF 17 zi ze zg f h).length c') ∧ Reads w' w'.heap.size 6 A' (partsF 17 zi ze zg f h).length (nds (partsF 17 zi ze zg f h)) ∧ Below w.heap.size w w' := by
  have HC : Hid (∀ W, Below w.heap.size w W → Calls Try.prog 102 #[.int .i64 zi, .int .i64 ze, .slice Af nf cf] W fun e w' => ∃ A' c', e = .returned (.slice A' (partsF 17 zi ze zg f h).length c') ∧ Reads w' w'.heap.size 6 A' (partsF 17 zi ze zg f h).length (nds (partsF 17 zi ze zg f h)) ∧ Below W.heap.size W w') := Lib.hid (fun W hb => by
    rw [show partsF 17 zi ze zg f h = buildF ⟨17, zi, ze, 0, 0, 0⟩ [f] from rfl]
    exact pAct_any zi ze f Af nf cf W ((hRf.below hb).more hb.size) hmf)
  have HB0 : Hid (Below w.heap.size w (w.alloc (.cells #[.int .i64 17, .int .i64 zi, .int .i64 ze, .int .i64 zg, .slice Af nf cf, .slice Ah nh ch] 35))) := Lib.hid ((Below.refl _ w).alloc (Nat.le_refl _) _)
  generalize partsF 17 zi ze zg f h = q at *
  clear hRf _hRh
  go_enter Try.func77, Try.ntmps77
  go_wp2_with fail
  refine (HC.out _ HB0.out).mono ?_
  rintro e w2 ⟨A', c', rfl, hR2, hb2⟩
  have HR2 := Lib.hid hR2
  have HB2 := Lib.hid (HB0.out.trans (hb2.mono HB0.out.size))
  clear hR2 hb2
  go_wp2
  go_ret
  exact ⟨A', c', rfl, HR2.out, HB2.out⟩
set_option maxRecDepth 100000 in
theorem con_18 (zi ze zg : Int) (f : List Nd) (Af : Option Addr) (nf cf : Nat) (h : List Nd) (Ah : Option Addr) (nh ch : Nat) (w : World) (hRf : Reads w w.heap.size 6 Af nf (nds f)) (hmf : nf ≤ maxLen) (_hRh : Reads w w.heap.size 6 Ah nh (nds h)) (_hmh : nh ≤ maxLen) :
    Calls Try.prog 77 #[.agg #[.int .i64 18, .int .i64 zi, .int .i64 ze, .int .i64 zg, .slice Af nf cf, .slice Ah nh ch]] w fun e w' => ∃ A' c', e = .returned (.slice A' (partsF 18 zi ze zg f h).length c') ∧ Reads w' w'.heap.size 6 A' (partsF 18 zi ze zg f h).length (nds (partsF 18 zi ze zg f h)) ∧ Below w.heap.size w w' := by
  have HC : Hid (∀ W, Below w.heap.size w W → Calls Try.prog 103 #[.slice Af nf cf] W fun e w' => ∃ A' c', e = .returned (.slice A' (partsF 18 zi ze zg f h).length c') ∧ Reads w' w'.heap.size 6 A' (partsF 18 zi ze zg f h).length (nds (partsF 18 zi ze zg f h)) ∧ Below W.heap.size W w') := Lib.hid (fun W hb => by
    rw [show partsF 18 zi ze zg f h = buildF ⟨18, 0, 0, 0, 0, 0⟩ [f] from rfl]
    exact pNext_any f Af nf cf W ((hRf.below hb).more hb.size) hmf)
  have HB0 : Hid (Below w.heap.size w (w.alloc (.cells #[.int .i64 18, .int .i64 zi, .int .i64 ze, .int .i64 zg, .slice Af nf cf, .slice Ah nh ch] 35))) := Lib.hid ((Below.refl _ w).alloc (Nat.le_refl _) _)
  generalize partsF 18 zi ze zg f h = q at *
  clear hRf _hRh
  go_enter Try.func77, Try.ntmps77
  go_wp2_with fail
  refine (HC.out _ HB0.out).mono ?_
  rintro e w2 ⟨A', c', rfl, hR2, hb2⟩
  have HR2 := Lib.hid hR2
  have HB2 := Lib.hid (HB0.out.trans (hb2.mono HB0.out.size))
  clear hR2 hb2
  go_wp2
  go_ret
  exact ⟨A', c', rfl, HR2.out, HB2.out⟩
set_option maxRecDepth 100000 in
theorem con_19 (zi ze zg : Int) (f : List Nd) (Af : Option Addr) (nf cf : Nat) (h : List Nd) (Ah : Option Addr) (nh ch : Nat) (w : World) (hRf : Reads w w.heap.size 6 Af nf (nds f)) (hmf : nf ≤ maxLen) (hRh : Reads w w.heap.size 6 Ah nh (nds h)) (hmh : nh ≤ maxLen) :
    Calls Try.prog 77 #[.agg #[.int .i64 19, .int .i64 zi, .int .i64 ze, .int .i64 zg, .slice Af nf cf, .slice Ah nh ch]] w fun e w' => ∃ A' c', e = .returned (.slice A' (partsF 19 zi ze zg f h).length c') ∧ Reads w' w'.heap.size 6 A' (partsF 19 zi ze zg f h).length (nds (partsF 19 zi ze zg f h)) ∧ Below w.heap.size w w' := by
  have HC : Hid (∀ W, Below w.heap.size w W → Calls Try.prog 104 #[.slice Af nf cf, .slice Ah nh ch] W fun e w' => ∃ A' c', e = .returned (.slice A' (partsF 19 zi ze zg f h).length c') ∧ Reads w' w'.heap.size 6 A' (partsF 19 zi ze zg f h).length (nds (partsF 19 zi ze zg f h)) ∧ Below W.heap.size W w') := Lib.hid (fun W hb => by
    rw [show partsF 19 zi ze zg f h = buildF ⟨19, 0, 0, 0, 0, 0⟩ [f, h] from rfl]
    exact pUntil_any f Af nf cf h Ah nh ch W ((hRf.below hb).more hb.size) hmf ((hRh.below hb).more hb.size) hmh)
  have HB0 : Hid (Below w.heap.size w (w.alloc (.cells #[.int .i64 19, .int .i64 zi, .int .i64 ze, .int .i64 zg, .slice Af nf cf, .slice Ah nh ch] 35))) := Lib.hid ((Below.refl _ w).alloc (Nat.le_refl _) _)
  generalize partsF 19 zi ze zg f h = q at *
  clear hRf hRh
  go_enter Try.func77, Try.ntmps77
  go_wp2_with fail
  refine (HC.out _ HB0.out).mono ?_
  rintro e w2 ⟨A', c', rfl, hR2, hb2⟩
  have HR2 := Lib.hid hR2
  have HB2 := Lib.hid (HB0.out.trans (hb2.mono HB0.out.size))
  clear hR2 hb2
  go_wp2
  go_ret
  exact ⟨A', c', rfl, HR2.out, HB2.out⟩
set_option maxRecDepth 100000 in
theorem con_20 (zi ze zg : Int) (f : List Nd) (Af : Option Addr) (nf cf : Nat) (h : List Nd) (Ah : Option Addr) (nh ch : Nat) (w : World) (hRf : Reads w w.heap.size 6 Af nf (nds f)) (hmf : nf ≤ maxLen) (_hRh : Reads w w.heap.size 6 Ah nh (nds h)) (_hmh : nh ≤ maxLen) :
    Calls Try.prog 77 #[.agg #[.int .i64 20, .int .i64 zi, .int .i64 ze, .int .i64 zg, .slice Af nf cf, .slice Ah nh ch]] w fun e w' => ∃ A' c', e = .returned (.slice A' (partsF 20 zi ze zg f h).length c') ∧ Reads w' w'.heap.size 6 A' (partsF 20 zi ze zg f h).length (nds (partsF 20 zi ze zg f h)) ∧ Below w.heap.size w w' := by
  have HC : Hid (∀ W, Below w.heap.size w W → Calls Try.prog 105 #[.slice Af nf cf] W fun e w' => ∃ A' c', e = .returned (.slice A' (partsF 20 zi ze zg f h).length c') ∧ Reads w' w'.heap.size 6 A' (partsF 20 zi ze zg f h).length (nds (partsF 20 zi ze zg f h)) ∧ Below W.heap.size W w') := Lib.hid (fun W hb => by
    rw [show partsF 20 zi ze zg f h = buildF ⟨20, 0, 0, 0, 0, 0⟩ [f] from rfl]
    exact pPrev_any f Af nf cf W ((hRf.below hb).more hb.size) hmf)
  have HB0 : Hid (Below w.heap.size w (w.alloc (.cells #[.int .i64 20, .int .i64 zi, .int .i64 ze, .int .i64 zg, .slice Af nf cf, .slice Ah nh ch] 35))) := Lib.hid ((Below.refl _ w).alloc (Nat.le_refl _) _)
  generalize partsF 20 zi ze zg f h = q at *
  clear hRf _hRh
  go_enter Try.func77, Try.ntmps77
  go_wp2_with fail
  refine (HC.out _ HB0.out).mono ?_
  rintro e w2 ⟨A', c', rfl, hR2, hb2⟩
  have HR2 := Lib.hid hR2
  have HB2 := Lib.hid (HB0.out.trans (hb2.mono HB0.out.size))
  clear hR2 hb2
  go_wp2
  go_ret
  exact ⟨A', c', rfl, HR2.out, HB2.out⟩
set_option maxRecDepth 100000 in
theorem con_21 (zi ze zg : Int) (f : List Nd) (Af : Option Addr) (nf cf : Nat) (h : List Nd) (Ah : Option Addr) (nh ch : Nat) (w : World) (hRf : Reads w w.heap.size 6 Af nf (nds f)) (hmf : nf ≤ maxLen) (hRh : Reads w w.heap.size 6 Ah nh (nds h)) (hmh : nh ≤ maxLen) :
    Calls Try.prog 77 #[.agg #[.int .i64 21, .int .i64 zi, .int .i64 ze, .int .i64 zg, .slice Af nf cf, .slice Ah nh ch]] w fun e w' => ∃ A' c', e = .returned (.slice A' (partsF 21 zi ze zg f h).length c') ∧ Reads w' w'.heap.size 6 A' (partsF 21 zi ze zg f h).length (nds (partsF 21 zi ze zg f h)) ∧ Below w.heap.size w w' := by
  have HC : Hid (∀ W, Below w.heap.size w W → Calls Try.prog 106 #[.slice Af nf cf, .slice Ah nh ch] W fun e w' => ∃ A' c', e = .returned (.slice A' (partsF 21 zi ze zg f h).length c') ∧ Reads w' w'.heap.size 6 A' (partsF 21 zi ze zg f h).length (nds (partsF 21 zi ze zg f h)) ∧ Below W.heap.size W w') := Lib.hid (fun W hb => by
    rw [show partsF 21 zi ze zg f h = buildF ⟨21, 0, 0, 0, 0, 0⟩ [f, h] from rfl]
    exact pSince_any f Af nf cf h Ah nh ch W ((hRf.below hb).more hb.size) hmf ((hRh.below hb).more hb.size) hmh)
  have HB0 : Hid (Below w.heap.size w (w.alloc (.cells #[.int .i64 21, .int .i64 zi, .int .i64 ze, .int .i64 zg, .slice Af nf cf, .slice Ah nh ch] 35))) := Lib.hid ((Below.refl _ w).alloc (Nat.le_refl _) _)
  generalize partsF 21 zi ze zg f h = q at *
  clear hRf hRh
  go_enter Try.func77, Try.ntmps77
  go_wp2_with fail
  refine (HC.out _ HB0.out).mono ?_
  rintro e w2 ⟨A', c', rfl, hR2, hb2⟩
  have HR2 := Lib.hid hR2
  have HB2 := Lib.hid (HB0.out.trans (hb2.mono HB0.out.size))
  clear hR2 hb2
  go_wp2
  go_ret
  exact ⟨A', c', rfl, HR2.out, HB2.out⟩
set_option maxRecDepth 100000 in
set_option maxHeartbeats 2000000 in
theorem want_1 (zi ze zg : Int) (f : List Nd) (Af : Option Addr) (nf cf : Nat) (h : List Nd) (Ah : Option Addr) (nh ch : Nat) (w : World) (_hRf : Reads w w.heap.size 6 Af nf (nds f)) (_hmf : nf ≤ maxLen) (_hRh : Reads w w.heap.size 6 Ah nh (nds h)) (_hmh : nh ≤ maxLen) :
    Calls Try.prog 39 #[.agg #[.int .i64 1, .int .i64 zi, .int .i64 ze, .int .i64 zg, .slice Af nf cf, .slice Ah nh ch]] w fun e w' => ∃ A' c', e = .returned (.slice A' (partsF 1 zi ze zg f h).length c') ∧ Reads w' w'.heap.size 6 A' (partsF 1 zi ze zg f h).length (nds (partsF 1 zi ze zg f h)) ∧ Below w.heap.size w w' := by
  have HUX : Hid (∀ W, Calls Try.prog 45 #[.int .i64 1] W fun e w' => e = .returned (.bool false) ∧ W = w') := Lib.hid (fun W => rUsesX_any 1 rfl W)
  have HUY : Hid (∀ W, Calls Try.prog 46 #[.int .i64 1] W fun e w' => e = .returned (.bool false) ∧ W = w') := Lib.hid (fun W => rUsesY_any 1 rfl W)
  have HC : Hid (∀ W, Below w.heap.size w W → Calls Try.prog 80 #[.agg #[.int .i64 1, .int .i64 0, .int .i64 0, .int .i64 0, .int .i64 0, .int .i64 0]] W fun e w' => ∃ A' c', e = .returned (.slice A' (partsF 1 zi ze zg f h).length c') ∧ Reads w' w'.heap.size 6 A' (partsF 1 zi ze zg f h).length (nds (partsF 1 zi ze zg f h)) ∧ Below W.heap.size W w') := Lib.hid (fun W hb => by
    rw [show partsF 1 zi ze zg f h = buildF ⟨1, 0, 0, 0, 0, 0⟩ [] from rfl, buildF_one (n := ⟨1, 0, 0, 0, 0, 0⟩) rfl ⟨Or.inr (Or.inr (Or.inr rfl)), Or.inr rfl, Or.inr rfl⟩ rfl rfl rfl]
    exact rOne_any ⟨1, 0, 0, 0, 0, 0⟩ W)
  have HB0 : Hid (Below w.heap.size w ((w.alloc (.cells #[.int .i64 1, .int .i64 zi, .int .i64 ze, .int .i64 zg, .slice Af nf cf, .slice Ah nh ch] 35)).alloc (.cells #[.int .i64 1, .int .i64 0, .int .i64 0, .int .i64 0, .int .i64 0, .int .i64 0] 44))) := Lib.hid (((Below.refl _ w).alloc (Nat.le_refl _) _).alloc (by simp) _)
  generalize partsF 1 zi ze zg f h = q at *
  clear _hRf _hRh
  go_enter Try.func39, Try.ntmps39
  go_wp2_with fail
  refine (HUY.out _).mono ?_
  rintro e w1 ⟨rfl, rfl⟩
  go_wp2_with fail
  refine (HUX.out _).mono ?_
  rintro e w1 ⟨rfl, rfl⟩
  go_wp2_with fail
  refine (HC.out _ HB0.out).mono ?_
  rintro e w2 ⟨A', c', rfl, hR2, hb2⟩
  have HR2 := Lib.hid hR2
  have HB2 := Lib.hid (HB0.out.trans (hb2.mono HB0.out.size))
  clear hR2 hb2
  go_wp2
  go_ret
  exact ⟨A', c', rfl, HR2.out, HB2.out⟩
set_option maxRecDepth 100000 in
set_option maxHeartbeats 2000000 in
theorem want_2 (zi ze zg : Int) (f : List Nd) (Af : Option Addr) (nf cf : Nat) (h : List Nd) (Ah : Option Addr) (nh ch : Nat) (w : World) (_hRf : Reads w w.heap.size 6 Af nf (nds f)) (_hmf : nf ≤ maxLen) (_hRh : Reads w w.heap.size 6 Ah nh (nds h)) (_hmh : nh ≤ maxLen) :
    Calls Try.prog 39 #[.agg #[.int .i64 2, .int .i64 zi, .int .i64 ze, .int .i64 zg, .slice Af nf cf, .slice Ah nh ch]] w fun e w' => ∃ A' c', e = .returned (.slice A' (partsF 2 zi ze zg f h).length c') ∧ Reads w' w'.heap.size 6 A' (partsF 2 zi ze zg f h).length (nds (partsF 2 zi ze zg f h)) ∧ Below w.heap.size w w' := by
  have HUX : Hid (∀ W, Calls Try.prog 45 #[.int .i64 2] W fun e w' => e = .returned (.bool false) ∧ W = w') := Lib.hid (fun W => rUsesX_any 2 rfl W)
  have HUY : Hid (∀ W, Calls Try.prog 46 #[.int .i64 2] W fun e w' => e = .returned (.bool false) ∧ W = w') := Lib.hid (fun W => rUsesY_any 2 rfl W)
  have HC : Hid (∀ W, Below w.heap.size w W → Calls Try.prog 80 #[.agg #[.int .i64 2, .int .i64 0, .int .i64 0, .int .i64 0, .int .i64 0, .int .i64 0]] W fun e w' => ∃ A' c', e = .returned (.slice A' (partsF 2 zi ze zg f h).length c') ∧ Reads w' w'.heap.size 6 A' (partsF 2 zi ze zg f h).length (nds (partsF 2 zi ze zg f h)) ∧ Below W.heap.size W w') := Lib.hid (fun W hb => by
    rw [show partsF 2 zi ze zg f h = buildF ⟨2, 0, 0, 0, 0, 0⟩ [] from rfl, buildF_one (n := ⟨2, 0, 0, 0, 0, 0⟩) rfl ⟨Or.inr (Or.inr (Or.inr rfl)), Or.inr rfl, Or.inr rfl⟩ rfl rfl rfl]
    exact rOne_any ⟨2, 0, 0, 0, 0, 0⟩ W)
  have HB0 : Hid (Below w.heap.size w ((w.alloc (.cells #[.int .i64 2, .int .i64 zi, .int .i64 ze, .int .i64 zg, .slice Af nf cf, .slice Ah nh ch] 35)).alloc (.cells #[.int .i64 2, .int .i64 0, .int .i64 0, .int .i64 0, .int .i64 0, .int .i64 0] 44))) := Lib.hid (((Below.refl _ w).alloc (Nat.le_refl _) _).alloc (by simp) _)
  generalize partsF 2 zi ze zg f h = q at *
  clear _hRf _hRh
  go_enter Try.func39, Try.ntmps39
  go_wp2_with fail
  refine (HUY.out _).mono ?_
  rintro e w1 ⟨rfl, rfl⟩
  go_wp2_with fail
  refine (HUX.out _).mono ?_
  rintro e w1 ⟨rfl, rfl⟩
  go_wp2_with fail
  refine (HC.out _ HB0.out).mono ?_
  rintro e w2 ⟨A', c', rfl, hR2, hb2⟩
  have HR2 := Lib.hid hR2
  have HB2 := Lib.hid (HB0.out.trans (hb2.mono HB0.out.size))
  clear hR2 hb2
  go_wp2
  go_ret
  exact ⟨A', c', rfl, HR2.out, HB2.out⟩
set_option maxRecDepth 100000 in
set_option maxHeartbeats 2000000 in
theorem want_3 (zi ze zg : Int) (f : List Nd) (Af : Option Addr) (nf cf : Nat) (h : List Nd) (Ah : Option Addr) (nh ch : Nat) (w : World) (_hRf : Reads w w.heap.size 6 Af nf (nds f)) (_hmf : nf ≤ maxLen) (_hRh : Reads w w.heap.size 6 Ah nh (nds h)) (_hmh : nh ≤ maxLen) :
    Calls Try.prog 39 #[.agg #[.int .i64 3, .int .i64 zi, .int .i64 ze, .int .i64 zg, .slice Af nf cf, .slice Ah nh ch]] w fun e w' => ∃ A' c', e = .returned (.slice A' (partsF 3 zi ze zg f h).length c') ∧ Reads w' w'.heap.size 6 A' (partsF 3 zi ze zg f h).length (nds (partsF 3 zi ze zg f h)) ∧ Below w.heap.size w w' := by
  have HUX : Hid (∀ W, Calls Try.prog 45 #[.int .i64 3] W fun e w' => e = .returned (.bool false) ∧ W = w') := Lib.hid (fun W => rUsesX_any 3 rfl W)
  have HUY : Hid (∀ W, Calls Try.prog 46 #[.int .i64 3] W fun e w' => e = .returned (.bool false) ∧ W = w') := Lib.hid (fun W => rUsesY_any 3 rfl W)
  have HC : Hid (∀ W, Below w.heap.size w W → Calls Try.prog 80 #[.agg #[.int .i64 3, .int .i64 zi, .int .i64 0, .int .i64 0, .int .i64 0, .int .i64 0]] W fun e w' => ∃ A' c', e = .returned (.slice A' (partsF 3 zi ze zg f h).length c') ∧ Reads w' w'.heap.size 6 A' (partsF 3 zi ze zg f h).length (nds (partsF 3 zi ze zg f h)) ∧ Below W.heap.size W w') := Lib.hid (fun W hb => by
    rw [show partsF 3 zi ze zg f h = buildF ⟨3, zi, 0, 0, 0, 0⟩ [] from rfl, buildF_one (n := ⟨3, zi, 0, 0, 0, 0⟩) rfl ⟨Or.inl rfl, Or.inr rfl, Or.inr rfl⟩ rfl rfl rfl]
    exact rOne_any ⟨3, zi, 0, 0, 0, 0⟩ W)
  have HB0 : Hid (Below w.heap.size w ((w.alloc (.cells #[.int .i64 3, .int .i64 zi, .int .i64 ze, .int .i64 zg, .slice Af nf cf, .slice Ah nh ch] 35)).alloc (.cells #[.int .i64 3, .int .i64 zi, .int .i64 0, .int .i64 0, .int .i64 0, .int .i64 0] 44))) := Lib.hid (((Below.refl _ w).alloc (Nat.le_refl _) _).alloc (by simp) _)
  generalize partsF 3 zi ze zg f h = q at *
  clear _hRf _hRh
  go_enter Try.func39, Try.ntmps39
  go_wp2_with fail
  refine (HUY.out _).mono ?_
  rintro e w1 ⟨rfl, rfl⟩
  go_wp2_with fail
  refine (HUX.out _).mono ?_
  rintro e w1 ⟨rfl, rfl⟩
  go_wp2_with fail
  refine (HC.out _ HB0.out).mono ?_
  rintro e w2 ⟨A', c', rfl, hR2, hb2⟩
  have HR2 := Lib.hid hR2
  have HB2 := Lib.hid (HB0.out.trans (hb2.mono HB0.out.size))
  clear hR2 hb2
  go_wp2
  go_ret
  exact ⟨A', c', rfl, HR2.out, HB2.out⟩
set_option maxRecDepth 100000 in
set_option maxHeartbeats 2000000 in
theorem want_4 (zi ze zg : Int) (f : List Nd) (Af : Option Addr) (nf cf : Nat) (h : List Nd) (Ah : Option Addr) (nh ch : Nat) (w : World) (hRf : Reads w w.heap.size 6 Af nf (nds f)) (hmf : nf ≤ maxLen) (_hRh : Reads w w.heap.size 6 Ah nh (nds h)) (_hmh : nh ≤ maxLen) :
    Calls Try.prog 39 #[.agg #[.int .i64 4, .int .i64 zi, .int .i64 ze, .int .i64 zg, .slice Af nf cf, .slice Ah nh ch]] w fun e w' => ∃ A' c', e = .returned (.slice A' (partsF 4 zi ze zg f h).length c') ∧ Reads w' w'.heap.size 6 A' (partsF 4 zi ze zg f h).length (nds (partsF 4 zi ze zg f h)) ∧ Below w.heap.size w w' := by
  have HUX : Hid (∀ W, Calls Try.prog 45 #[.int .i64 4] W fun e w' => e = .returned (.bool true) ∧ W = w') := Lib.hid (fun W => rUsesX_any 4 rfl W)
  have HUY : Hid (∀ W, Calls Try.prog 46 #[.int .i64 4] W fun e w' => e = .returned (.bool false) ∧ W = w') := Lib.hid (fun W => rUsesY_any 4 rfl W)
  have HC : Hid (∀ W, Below w.heap.size w W → Calls Try.prog 79 #[.agg #[.int .i64 4, .int .i64 0, .int .i64 0, .int .i64 0, .int .i64 0, .int .i64 0], .slice Af nf cf] W fun e w' => ∃ A' c', e = .returned (.slice A' (partsF 4 zi ze zg f h).length c') ∧ Reads w' w'.heap.size 6 A' (partsF 4 zi ze zg f h).length (nds (partsF 4 zi ze zg f h)) ∧ Below W.heap.size W w') := Lib.hid (fun W hb => by
    rw [show partsF 4 zi ze zg f h = buildF ⟨4, 0, 0, 0, 0, 0⟩ [f] from rfl, buildF_un (n := ⟨4, 0, 0, 0, 0, 0⟩) (f := f) rfl ⟨Or.inr (Or.inr (Or.inr rfl)), Or.inr rfl, Or.inr rfl⟩ rfl rfl rfl]
    exact rUnary_any ⟨4, 0, 0, 0, 0, 0⟩ f Af nf cf W ((hRf.below hb).more hb.size) hmf)
  have HB0 : Hid (Below w.heap.size w ((w.alloc (.cells #[.int .i64 4, .int .i64 zi, .int .i64 ze, .int .i64 zg, .slice Af nf cf, .slice Ah nh ch] 35)).alloc (.cells #[.int .i64 4, .int .i64 0, .int .i64 0, .int .i64 0, .int .i64 0, .int .i64 0] 44))) := Lib.hid (((Below.refl _ w).alloc (Nat.le_refl _) _).alloc (by simp) _)
  generalize partsF 4 zi ze zg f h = q at *
  clear hRf _hRh
  go_enter Try.func39, Try.ntmps39
  go_wp2_with fail
  refine (HUY.out _).mono ?_
  rintro e w1 ⟨rfl, rfl⟩
  go_wp2_with fail
  refine (HUX.out _).mono ?_
  rintro e w1 ⟨rfl, rfl⟩
  go_wp2_with fail
  refine (HC.out _ HB0.out).mono ?_
  rintro e w2 ⟨A', c', rfl, hR2, hb2⟩
  have HR2 := Lib.hid hR2
  have HB2 := Lib.hid (HB0.out.trans (hb2.mono HB0.out.size))
  clear hR2 hb2
  go_wp2
  go_ret
  exact ⟨A', c', rfl, HR2.out, HB2.out⟩
set_option maxRecDepth 100000 in
set_option maxHeartbeats 2000000 in
theorem want_5 (zi ze zg : Int) (f : List Nd) (Af : Option Addr) (nf cf : Nat) (h : List Nd) (Ah : Option Addr) (nh ch : Nat) (w : World) (hRf : Reads w w.heap.size 6 Af nf (nds f)) (hmf : nf ≤ maxLen) (hRh : Reads w w.heap.size 6 Ah nh (nds h)) (hmh : nh ≤ maxLen) :
    Calls Try.prog 39 #[.agg #[.int .i64 5, .int .i64 zi, .int .i64 ze, .int .i64 zg, .slice Af nf cf, .slice Ah nh ch]] w fun e w' => ∃ A' c', e = .returned (.slice A' (partsF 5 zi ze zg f h).length c') ∧ Reads w' w'.heap.size 6 A' (partsF 5 zi ze zg f h).length (nds (partsF 5 zi ze zg f h)) ∧ Below w.heap.size w w' := by
  have HUX : Hid (∀ W, Calls Try.prog 45 #[.int .i64 5] W fun e w' => e = .returned (.bool true) ∧ W = w') := Lib.hid (fun W => rUsesX_any 5 rfl W)
  have HUY : Hid (∀ W, Calls Try.prog 46 #[.int .i64 5] W fun e w' => e = .returned (.bool true) ∧ W = w') := Lib.hid (fun W => rUsesY_any 5 rfl W)
  have HC : Hid (∀ W, Below w.heap.size w W → Calls Try.prog 78 #[.agg #[.int .i64 5, .int .i64 0, .int .i64 0, .int .i64 0, .int .i64 0, .int .i64 0], .slice Af nf cf, .slice Ah nh ch] W fun e w' => ∃ A' c', e = .returned (.slice A' (partsF 5 zi ze zg f h).length c') ∧ Reads w' w'.heap.size 6 A' (partsF 5 zi ze zg f h).length (nds (partsF 5 zi ze zg f h)) ∧ Below W.heap.size W w') := Lib.hid (fun W hb => by
    rw [show partsF 5 zi ze zg f h = buildF ⟨5, 0, 0, 0, 0, 0⟩ [f, h] from rfl, buildF_bin (n := ⟨5, 0, 0, 0, 0, 0⟩) (f := f) (g := h) rfl ⟨Or.inr (Or.inr (Or.inr rfl)), Or.inr rfl, Or.inr rfl⟩ rfl rfl]
    exact rBinary_any ⟨5, 0, 0, 0, 0, 0⟩ f h Af Ah nf cf nh ch W ((hRf.below hb).more hb.size) hmf ((hRh.below hb).more hb.size) hmh)
  have HB0 : Hid (Below w.heap.size w ((w.alloc (.cells #[.int .i64 5, .int .i64 zi, .int .i64 ze, .int .i64 zg, .slice Af nf cf, .slice Ah nh ch] 35)).alloc (.cells #[.int .i64 5, .int .i64 0, .int .i64 0, .int .i64 0, .int .i64 0, .int .i64 0] 44))) := Lib.hid (((Below.refl _ w).alloc (Nat.le_refl _) _).alloc (by simp) _)
  generalize partsF 5 zi ze zg f h = q at *
  clear hRf hRh
  go_enter Try.func39, Try.ntmps39
  go_wp2_with fail
  refine (HUY.out _).mono ?_
  rintro e w1 ⟨rfl, rfl⟩
  go_wp2_with fail
  refine (HC.out _ HB0.out).mono ?_
  rintro e w2 ⟨A', c', rfl, hR2, hb2⟩
  have HR2 := Lib.hid hR2
  have HB2 := Lib.hid (HB0.out.trans (hb2.mono HB0.out.size))
  clear hR2 hb2
  go_wp2
  go_ret
  exact ⟨A', c', rfl, HR2.out, HB2.out⟩
set_option maxRecDepth 100000 in
set_option maxHeartbeats 2000000 in
theorem want_6 (zi ze zg : Int) (f : List Nd) (Af : Option Addr) (nf cf : Nat) (h : List Nd) (Ah : Option Addr) (nh ch : Nat) (w : World) (hRf : Reads w w.heap.size 6 Af nf (nds f)) (hmf : nf ≤ maxLen) (hRh : Reads w w.heap.size 6 Ah nh (nds h)) (hmh : nh ≤ maxLen) :
    Calls Try.prog 39 #[.agg #[.int .i64 6, .int .i64 zi, .int .i64 ze, .int .i64 zg, .slice Af nf cf, .slice Ah nh ch]] w fun e w' => ∃ A' c', e = .returned (.slice A' (partsF 6 zi ze zg f h).length c') ∧ Reads w' w'.heap.size 6 A' (partsF 6 zi ze zg f h).length (nds (partsF 6 zi ze zg f h)) ∧ Below w.heap.size w w' := by
  have HUX : Hid (∀ W, Calls Try.prog 45 #[.int .i64 6] W fun e w' => e = .returned (.bool true) ∧ W = w') := Lib.hid (fun W => rUsesX_any 6 rfl W)
  have HUY : Hid (∀ W, Calls Try.prog 46 #[.int .i64 6] W fun e w' => e = .returned (.bool true) ∧ W = w') := Lib.hid (fun W => rUsesY_any 6 rfl W)
  have HC : Hid (∀ W, Below w.heap.size w W → Calls Try.prog 78 #[.agg #[.int .i64 6, .int .i64 0, .int .i64 0, .int .i64 0, .int .i64 0, .int .i64 0], .slice Af nf cf, .slice Ah nh ch] W fun e w' => ∃ A' c', e = .returned (.slice A' (partsF 6 zi ze zg f h).length c') ∧ Reads w' w'.heap.size 6 A' (partsF 6 zi ze zg f h).length (nds (partsF 6 zi ze zg f h)) ∧ Below W.heap.size W w') := Lib.hid (fun W hb => by
    rw [show partsF 6 zi ze zg f h = buildF ⟨6, 0, 0, 0, 0, 0⟩ [f, h] from rfl, buildF_bin (n := ⟨6, 0, 0, 0, 0, 0⟩) (f := f) (g := h) rfl ⟨Or.inr (Or.inr (Or.inr rfl)), Or.inr rfl, Or.inr rfl⟩ rfl rfl]
    exact rBinary_any ⟨6, 0, 0, 0, 0, 0⟩ f h Af Ah nf cf nh ch W ((hRf.below hb).more hb.size) hmf ((hRh.below hb).more hb.size) hmh)
  have HB0 : Hid (Below w.heap.size w ((w.alloc (.cells #[.int .i64 6, .int .i64 zi, .int .i64 ze, .int .i64 zg, .slice Af nf cf, .slice Ah nh ch] 35)).alloc (.cells #[.int .i64 6, .int .i64 0, .int .i64 0, .int .i64 0, .int .i64 0, .int .i64 0] 44))) := Lib.hid (((Below.refl _ w).alloc (Nat.le_refl _) _).alloc (by simp) _)
  generalize partsF 6 zi ze zg f h = q at *
  clear hRf hRh
  go_enter Try.func39, Try.ntmps39
  go_wp2_with fail
  refine (HUY.out _).mono ?_
  rintro e w1 ⟨rfl, rfl⟩
  go_wp2_with fail
  refine (HC.out _ HB0.out).mono ?_
  rintro e w2 ⟨A', c', rfl, hR2, hb2⟩
  have HR2 := Lib.hid hR2
  have HB2 := Lib.hid (HB0.out.trans (hb2.mono HB0.out.size))
  clear hR2 hb2
  go_wp2
  go_ret
  exact ⟨A', c', rfl, HR2.out, HB2.out⟩
set_option maxRecDepth 100000 in
set_option maxHeartbeats 2000000 in
theorem want_7 (zi ze zg : Int) (f : List Nd) (Af : Option Addr) (nf cf : Nat) (h : List Nd) (Ah : Option Addr) (nh ch : Nat) (w : World) (hRf : Reads w w.heap.size 6 Af nf (nds f)) (hmf : nf ≤ maxLen) (hRh : Reads w w.heap.size 6 Ah nh (nds h)) (hmh : nh ≤ maxLen) :
    Calls Try.prog 39 #[.agg #[.int .i64 7, .int .i64 zi, .int .i64 ze, .int .i64 zg, .slice Af nf cf, .slice Ah nh ch]] w fun e w' => ∃ A' c', e = .returned (.slice A' (partsF 7 zi ze zg f h).length c') ∧ Reads w' w'.heap.size 6 A' (partsF 7 zi ze zg f h).length (nds (partsF 7 zi ze zg f h)) ∧ Below w.heap.size w w' := by
  have HUX : Hid (∀ W, Calls Try.prog 45 #[.int .i64 7] W fun e w' => e = .returned (.bool true) ∧ W = w') := Lib.hid (fun W => rUsesX_any 7 rfl W)
  have HUY : Hid (∀ W, Calls Try.prog 46 #[.int .i64 7] W fun e w' => e = .returned (.bool true) ∧ W = w') := Lib.hid (fun W => rUsesY_any 7 rfl W)
  have HC : Hid (∀ W, Below w.heap.size w W → Calls Try.prog 78 #[.agg #[.int .i64 7, .int .i64 0, .int .i64 0, .int .i64 0, .int .i64 0, .int .i64 0], .slice Af nf cf, .slice Ah nh ch] W fun e w' => ∃ A' c', e = .returned (.slice A' (partsF 7 zi ze zg f h).length c') ∧ Reads w' w'.heap.size 6 A' (partsF 7 zi ze zg f h).length (nds (partsF 7 zi ze zg f h)) ∧ Below W.heap.size W w') := Lib.hid (fun W hb => by
    rw [show partsF 7 zi ze zg f h = buildF ⟨7, 0, 0, 0, 0, 0⟩ [f, h] from rfl, buildF_bin (n := ⟨7, 0, 0, 0, 0, 0⟩) (f := f) (g := h) rfl ⟨Or.inr (Or.inr (Or.inr rfl)), Or.inr rfl, Or.inr rfl⟩ rfl rfl]
    exact rBinary_any ⟨7, 0, 0, 0, 0, 0⟩ f h Af Ah nf cf nh ch W ((hRf.below hb).more hb.size) hmf ((hRh.below hb).more hb.size) hmh)
  have HB0 : Hid (Below w.heap.size w ((w.alloc (.cells #[.int .i64 7, .int .i64 zi, .int .i64 ze, .int .i64 zg, .slice Af nf cf, .slice Ah nh ch] 35)).alloc (.cells #[.int .i64 7, .int .i64 0, .int .i64 0, .int .i64 0, .int .i64 0, .int .i64 0] 44))) := Lib.hid (((Below.refl _ w).alloc (Nat.le_refl _) _).alloc (by simp) _)
  generalize partsF 7 zi ze zg f h = q at *
  clear hRf hRh
  go_enter Try.func39, Try.ntmps39
  go_wp2_with fail
  refine (HUY.out _).mono ?_
  rintro e w1 ⟨rfl, rfl⟩
  go_wp2_with fail
  refine (HC.out _ HB0.out).mono ?_
  rintro e w2 ⟨A', c', rfl, hR2, hb2⟩
  have HR2 := Lib.hid hR2
  have HB2 := Lib.hid (HB0.out.trans (hb2.mono HB0.out.size))
  clear hR2 hb2
  go_wp2
  go_ret
  exact ⟨A', c', rfl, HR2.out, HB2.out⟩
set_option maxRecDepth 100000 in
set_option maxHeartbeats 2000000 in
theorem want_8 (zi ze zg : Int) (f : List Nd) (Af : Option Addr) (nf cf : Nat) (h : List Nd) (Ah : Option Addr) (nh ch : Nat) (w : World) (hRf : Reads w w.heap.size 6 Af nf (nds f)) (hmf : nf ≤ maxLen) (hRh : Reads w w.heap.size 6 Ah nh (nds h)) (hmh : nh ≤ maxLen) :
    Calls Try.prog 39 #[.agg #[.int .i64 8, .int .i64 zi, .int .i64 ze, .int .i64 zg, .slice Af nf cf, .slice Ah nh ch]] w fun e w' => ∃ A' c', e = .returned (.slice A' (partsF 8 zi ze zg f h).length c') ∧ Reads w' w'.heap.size 6 A' (partsF 8 zi ze zg f h).length (nds (partsF 8 zi ze zg f h)) ∧ Below w.heap.size w w' := by
  have HUX : Hid (∀ W, Calls Try.prog 45 #[.int .i64 8] W fun e w' => e = .returned (.bool true) ∧ W = w') := Lib.hid (fun W => rUsesX_any 8 rfl W)
  have HUY : Hid (∀ W, Calls Try.prog 46 #[.int .i64 8] W fun e w' => e = .returned (.bool true) ∧ W = w') := Lib.hid (fun W => rUsesY_any 8 rfl W)
  have HC : Hid (∀ W, Below w.heap.size w W → Calls Try.prog 78 #[.agg #[.int .i64 8, .int .i64 0, .int .i64 0, .int .i64 0, .int .i64 0, .int .i64 0], .slice Af nf cf, .slice Ah nh ch] W fun e w' => ∃ A' c', e = .returned (.slice A' (partsF 8 zi ze zg f h).length c') ∧ Reads w' w'.heap.size 6 A' (partsF 8 zi ze zg f h).length (nds (partsF 8 zi ze zg f h)) ∧ Below W.heap.size W w') := Lib.hid (fun W hb => by
    rw [show partsF 8 zi ze zg f h = buildF ⟨8, 0, 0, 0, 0, 0⟩ [f, h] from rfl, buildF_bin (n := ⟨8, 0, 0, 0, 0, 0⟩) (f := f) (g := h) rfl ⟨Or.inr (Or.inr (Or.inr rfl)), Or.inr rfl, Or.inr rfl⟩ rfl rfl]
    exact rBinary_any ⟨8, 0, 0, 0, 0, 0⟩ f h Af Ah nf cf nh ch W ((hRf.below hb).more hb.size) hmf ((hRh.below hb).more hb.size) hmh)
  have HB0 : Hid (Below w.heap.size w ((w.alloc (.cells #[.int .i64 8, .int .i64 zi, .int .i64 ze, .int .i64 zg, .slice Af nf cf, .slice Ah nh ch] 35)).alloc (.cells #[.int .i64 8, .int .i64 0, .int .i64 0, .int .i64 0, .int .i64 0, .int .i64 0] 44))) := Lib.hid (((Below.refl _ w).alloc (Nat.le_refl _) _).alloc (by simp) _)
  generalize partsF 8 zi ze zg f h = q at *
  clear hRf hRh
  go_enter Try.func39, Try.ntmps39
  go_wp2_with fail
  refine (HUY.out _).mono ?_
  rintro e w1 ⟨rfl, rfl⟩
  go_wp2_with fail
  refine (HC.out _ HB0.out).mono ?_
  rintro e w2 ⟨A', c', rfl, hR2, hb2⟩
  have HR2 := Lib.hid hR2
  have HB2 := Lib.hid (HB0.out.trans (hb2.mono HB0.out.size))
  clear hR2 hb2
  go_wp2
  go_ret
  exact ⟨A', c', rfl, HR2.out, HB2.out⟩
set_option maxRecDepth 100000 in
set_option maxHeartbeats 2000000 in
theorem want_9 (zi ze zg : Int) (f : List Nd) (Af : Option Addr) (nf cf : Nat) (h : List Nd) (Ah : Option Addr) (nh ch : Nat) (w : World) (hRf : Reads w w.heap.size 6 Af nf (nds f)) (hmf : nf ≤ maxLen) (_hRh : Reads w w.heap.size 6 Ah nh (nds h)) (_hmh : nh ≤ maxLen) :
    Calls Try.prog 39 #[.agg #[.int .i64 9, .int .i64 zi, .int .i64 ze, .int .i64 zg, .slice Af nf cf, .slice Ah nh ch]] w fun e w' => ∃ A' c', e = .returned (.slice A' (partsF 9 zi ze zg f h).length c') ∧ Reads w' w'.heap.size 6 A' (partsF 9 zi ze zg f h).length (nds (partsF 9 zi ze zg f h)) ∧ Below w.heap.size w w' := by
  have HUX : Hid (∀ W, Calls Try.prog 45 #[.int .i64 9] W fun e w' => e = .returned (.bool true) ∧ W = w') := Lib.hid (fun W => rUsesX_any 9 rfl W)
  have HUY : Hid (∀ W, Calls Try.prog 46 #[.int .i64 9] W fun e w' => e = .returned (.bool false) ∧ W = w') := Lib.hid (fun W => rUsesY_any 9 rfl W)
  have HC : Hid (∀ W, Below w.heap.size w W → Calls Try.prog 79 #[.agg #[.int .i64 9, .int .i64 zi, .int .i64 0, .int .i64 0, .int .i64 0, .int .i64 0], .slice Af nf cf] W fun e w' => ∃ A' c', e = .returned (.slice A' (partsF 9 zi ze zg f h).length c') ∧ Reads w' w'.heap.size 6 A' (partsF 9 zi ze zg f h).length (nds (partsF 9 zi ze zg f h)) ∧ Below W.heap.size W w') := Lib.hid (fun W hb => by
    rw [show partsF 9 zi ze zg f h = buildF ⟨9, zi, 0, 0, 0, 0⟩ [f] from rfl, buildF_un (n := ⟨9, zi, 0, 0, 0, 0⟩) (f := f) rfl ⟨Or.inr (Or.inl rfl), Or.inr rfl, Or.inr rfl⟩ rfl rfl rfl]
    exact rUnary_any ⟨9, zi, 0, 0, 0, 0⟩ f Af nf cf W ((hRf.below hb).more hb.size) hmf)
  have HB0 : Hid (Below w.heap.size w ((w.alloc (.cells #[.int .i64 9, .int .i64 zi, .int .i64 ze, .int .i64 zg, .slice Af nf cf, .slice Ah nh ch] 35)).alloc (.cells #[.int .i64 9, .int .i64 zi, .int .i64 0, .int .i64 0, .int .i64 0, .int .i64 0] 44))) := Lib.hid (((Below.refl _ w).alloc (Nat.le_refl _) _).alloc (by simp) _)
  generalize partsF 9 zi ze zg f h = q at *
  clear hRf _hRh
  go_enter Try.func39, Try.ntmps39
  go_wp2_with fail
  refine (HUY.out _).mono ?_
  rintro e w1 ⟨rfl, rfl⟩
  go_wp2_with fail
  refine (HUX.out _).mono ?_
  rintro e w1 ⟨rfl, rfl⟩
  go_wp2_with fail
  refine (HC.out _ HB0.out).mono ?_
  rintro e w2 ⟨A', c', rfl, hR2, hb2⟩
  have HR2 := Lib.hid hR2
  have HB2 := Lib.hid (HB0.out.trans (hb2.mono HB0.out.size))
  clear hR2 hb2
  go_wp2
  go_ret
  exact ⟨A', c', rfl, HR2.out, HB2.out⟩
set_option maxRecDepth 100000 in
set_option maxHeartbeats 2000000 in
theorem want_10 (zi ze zg : Int) (f : List Nd) (Af : Option Addr) (nf cf : Nat) (h : List Nd) (Ah : Option Addr) (nh ch : Nat) (w : World) (hRf : Reads w w.heap.size 6 Af nf (nds f)) (hmf : nf ≤ maxLen) (_hRh : Reads w w.heap.size 6 Ah nh (nds h)) (_hmh : nh ≤ maxLen) :
    Calls Try.prog 39 #[.agg #[.int .i64 10, .int .i64 zi, .int .i64 ze, .int .i64 zg, .slice Af nf cf, .slice Ah nh ch]] w fun e w' => ∃ A' c', e = .returned (.slice A' (partsF 10 zi ze zg f h).length c') ∧ Reads w' w'.heap.size 6 A' (partsF 10 zi ze zg f h).length (nds (partsF 10 zi ze zg f h)) ∧ Below w.heap.size w w' := by
  have HUX : Hid (∀ W, Calls Try.prog 45 #[.int .i64 10] W fun e w' => e = .returned (.bool true) ∧ W = w') := Lib.hid (fun W => rUsesX_any 10 rfl W)
  have HUY : Hid (∀ W, Calls Try.prog 46 #[.int .i64 10] W fun e w' => e = .returned (.bool false) ∧ W = w') := Lib.hid (fun W => rUsesY_any 10 rfl W)
  have HC : Hid (∀ W, Below w.heap.size w W → Calls Try.prog 79 #[.agg #[.int .i64 10, .int .i64 zi, .int .i64 0, .int .i64 0, .int .i64 0, .int .i64 0], .slice Af nf cf] W fun e w' => ∃ A' c', e = .returned (.slice A' (partsF 10 zi ze zg f h).length c') ∧ Reads w' w'.heap.size 6 A' (partsF 10 zi ze zg f h).length (nds (partsF 10 zi ze zg f h)) ∧ Below W.heap.size W w') := Lib.hid (fun W hb => by
    rw [show partsF 10 zi ze zg f h = buildF ⟨10, zi, 0, 0, 0, 0⟩ [f] from rfl, buildF_un (n := ⟨10, zi, 0, 0, 0, 0⟩) (f := f) rfl ⟨Or.inr (Or.inl rfl), Or.inr rfl, Or.inr rfl⟩ rfl rfl rfl]
    exact rUnary_any ⟨10, zi, 0, 0, 0, 0⟩ f Af nf cf W ((hRf.below hb).more hb.size) hmf)
  have HB0 : Hid (Below w.heap.size w ((w.alloc (.cells #[.int .i64 10, .int .i64 zi, .int .i64 ze, .int .i64 zg, .slice Af nf cf, .slice Ah nh ch] 35)).alloc (.cells #[.int .i64 10, .int .i64 zi, .int .i64 0, .int .i64 0, .int .i64 0, .int .i64 0] 44))) := Lib.hid (((Below.refl _ w).alloc (Nat.le_refl _) _).alloc (by simp) _)
  generalize partsF 10 zi ze zg f h = q at *
  clear hRf _hRh
  go_enter Try.func39, Try.ntmps39
  go_wp2_with fail
  refine (HUY.out _).mono ?_
  rintro e w1 ⟨rfl, rfl⟩
  go_wp2_with fail
  refine (HUX.out _).mono ?_
  rintro e w1 ⟨rfl, rfl⟩
  go_wp2_with fail
  refine (HC.out _ HB0.out).mono ?_
  rintro e w2 ⟨A', c', rfl, hR2, hb2⟩
  have HR2 := Lib.hid hR2
  have HB2 := Lib.hid (HB0.out.trans (hb2.mono HB0.out.size))
  clear hR2 hb2
  go_wp2
  go_ret
  exact ⟨A', c', rfl, HR2.out, HB2.out⟩
set_option maxRecDepth 100000 in
set_option maxHeartbeats 2000000 in
theorem want_11 (zi ze zg : Int) (f : List Nd) (Af : Option Addr) (nf cf : Nat) (h : List Nd) (Ah : Option Addr) (nh ch : Nat) (w : World) (hRf : Reads w w.heap.size 6 Af nf (nds f)) (hmf : nf ≤ maxLen) (_hRh : Reads w w.heap.size 6 Ah nh (nds h)) (_hmh : nh ≤ maxLen) :
    Calls Try.prog 39 #[.agg #[.int .i64 11, .int .i64 zi, .int .i64 ze, .int .i64 zg, .slice Af nf cf, .slice Ah nh ch]] w fun e w' => ∃ A' c', e = .returned (.slice A' (partsF 11 zi ze zg f h).length c') ∧ Reads w' w'.heap.size 6 A' (partsF 11 zi ze zg f h).length (nds (partsF 11 zi ze zg f h)) ∧ Below w.heap.size w w' := by
  have HUX : Hid (∀ W, Calls Try.prog 45 #[.int .i64 11] W fun e w' => e = .returned (.bool true) ∧ W = w') := Lib.hid (fun W => rUsesX_any 11 rfl W)
  have HUY : Hid (∀ W, Calls Try.prog 46 #[.int .i64 11] W fun e w' => e = .returned (.bool false) ∧ W = w') := Lib.hid (fun W => rUsesY_any 11 rfl W)
  have HC : Hid (∀ W, Below w.heap.size w W → Calls Try.prog 79 #[.agg #[.int .i64 11, .int .i64 0, .int .i64 0, .int .i64 zg, .int .i64 0, .int .i64 0], .slice Af nf cf] W fun e w' => ∃ A' c', e = .returned (.slice A' (partsF 11 zi ze zg f h).length c') ∧ Reads w' w'.heap.size 6 A' (partsF 11 zi ze zg f h).length (nds (partsF 11 zi ze zg f h)) ∧ Below W.heap.size W w') := Lib.hid (fun W hb => by
    rw [show partsF 11 zi ze zg f h = buildF ⟨11, 0, 0, zg, 0, 0⟩ [f] from rfl, buildF_un (n := ⟨11, 0, 0, zg, 0, 0⟩) (f := f) rfl ⟨Or.inr (Or.inr (Or.inr rfl)), Or.inr rfl, Or.inl rfl⟩ rfl rfl rfl]
    exact rUnary_any ⟨11, 0, 0, zg, 0, 0⟩ f Af nf cf W ((hRf.below hb).more hb.size) hmf)
  have HB0 : Hid (Below w.heap.size w ((w.alloc (.cells #[.int .i64 11, .int .i64 zi, .int .i64 ze, .int .i64 zg, .slice Af nf cf, .slice Ah nh ch] 35)).alloc (.cells #[.int .i64 11, .int .i64 0, .int .i64 0, .int .i64 zg, .int .i64 0, .int .i64 0] 44))) := Lib.hid (((Below.refl _ w).alloc (Nat.le_refl _) _).alloc (by simp) _)
  generalize partsF 11 zi ze zg f h = q at *
  clear hRf _hRh
  go_enter Try.func39, Try.ntmps39
  go_wp2_with fail
  refine (HUY.out _).mono ?_
  rintro e w1 ⟨rfl, rfl⟩
  go_wp2_with fail
  refine (HUX.out _).mono ?_
  rintro e w1 ⟨rfl, rfl⟩
  go_wp2_with fail
  refine (HC.out _ HB0.out).mono ?_
  rintro e w2 ⟨A', c', rfl, hR2, hb2⟩
  have HR2 := Lib.hid hR2
  have HB2 := Lib.hid (HB0.out.trans (hb2.mono HB0.out.size))
  clear hR2 hb2
  go_wp2
  go_ret
  exact ⟨A', c', rfl, HR2.out, HB2.out⟩
set_option maxRecDepth 100000 in
set_option maxHeartbeats 2000000 in
theorem want_12 (zi ze zg : Int) (f : List Nd) (Af : Option Addr) (nf cf : Nat) (h : List Nd) (Ah : Option Addr) (nh ch : Nat) (w : World) (hRf : Reads w w.heap.size 6 Af nf (nds f)) (hmf : nf ≤ maxLen) (_hRh : Reads w w.heap.size 6 Ah nh (nds h)) (_hmh : nh ≤ maxLen) :
    Calls Try.prog 39 #[.agg #[.int .i64 12, .int .i64 zi, .int .i64 ze, .int .i64 zg, .slice Af nf cf, .slice Ah nh ch]] w fun e w' => ∃ A' c', e = .returned (.slice A' (partsF 12 zi ze zg f h).length c') ∧ Reads w' w'.heap.size 6 A' (partsF 12 zi ze zg f h).length (nds (partsF 12 zi ze zg f h)) ∧ Below w.heap.size w w' := by
  have HUX : Hid (∀ W, Calls Try.prog 45 #[.int .i64 12] W fun e w' => e = .returned (.bool true) ∧ W = w') := Lib.hid (fun W => rUsesX_any 12 rfl W)
  have HUY : Hid (∀ W, Calls Try.prog 46 #[.int .i64 12] W fun e w' => e = .returned (.bool false) ∧ W = w') := Lib.hid (fun W => rUsesY_any 12 rfl W)
  have HC : Hid (∀ W, Below w.heap.size w W → Calls Try.prog 79 #[.agg #[.int .i64 12, .int .i64 0, .int .i64 0, .int .i64 zg, .int .i64 0, .int .i64 0], .slice Af nf cf] W fun e w' => ∃ A' c', e = .returned (.slice A' (partsF 12 zi ze zg f h).length c') ∧ Reads w' w'.heap.size 6 A' (partsF 12 zi ze zg f h).length (nds (partsF 12 zi ze zg f h)) ∧ Below W.heap.size W w') := Lib.hid (fun W hb => by
    rw [show partsF 12 zi ze zg f h = buildF ⟨12, 0, 0, zg, 0, 0⟩ [f] from rfl, buildF_un (n := ⟨12, 0, 0, zg, 0, 0⟩) (f := f) rfl ⟨Or.inr (Or.inr (Or.inr rfl)), Or.inr rfl, Or.inl rfl⟩ rfl rfl rfl]
    exact rUnary_any ⟨12, 0, 0, zg, 0, 0⟩ f Af nf cf W ((hRf.below hb).more hb.size) hmf)
  have HB0 : Hid (Below w.heap.size w ((w.alloc (.cells #[.int .i64 12, .int .i64 zi, .int .i64 ze, .int .i64 zg, .slice Af nf cf, .slice Ah nh ch] 35)).alloc (.cells #[.int .i64 12, .int .i64 0, .int .i64 0, .int .i64 zg, .int .i64 0, .int .i64 0] 44))) := Lib.hid (((Below.refl _ w).alloc (Nat.le_refl _) _).alloc (by simp) _)
  generalize partsF 12 zi ze zg f h = q at *
  clear hRf _hRh
  go_enter Try.func39, Try.ntmps39
  go_wp2_with fail
  refine (HUY.out _).mono ?_
  rintro e w1 ⟨rfl, rfl⟩
  go_wp2_with fail
  refine (HUX.out _).mono ?_
  rintro e w1 ⟨rfl, rfl⟩
  go_wp2_with fail
  refine (HC.out _ HB0.out).mono ?_
  rintro e w2 ⟨A', c', rfl, hR2, hb2⟩
  have HR2 := Lib.hid hR2
  have HB2 := Lib.hid (HB0.out.trans (hb2.mono HB0.out.size))
  clear hR2 hb2
  go_wp2
  go_ret
  exact ⟨A', c', rfl, HR2.out, HB2.out⟩
set_option maxRecDepth 100000 in
set_option maxHeartbeats 2000000 in
theorem want_13 (zi ze zg : Int) (f : List Nd) (Af : Option Addr) (nf cf : Nat) (h : List Nd) (Ah : Option Addr) (nh ch : Nat) (w : World) (hRf : Reads w w.heap.size 6 Af nf (nds f)) (hmf : nf ≤ maxLen) (hRh : Reads w w.heap.size 6 Ah nh (nds h)) (hmh : nh ≤ maxLen) :
    Calls Try.prog 39 #[.agg #[.int .i64 13, .int .i64 zi, .int .i64 ze, .int .i64 zg, .slice Af nf cf, .slice Ah nh ch]] w fun e w' => ∃ A' c', e = .returned (.slice A' (partsF 13 zi ze zg f h).length c') ∧ Reads w' w'.heap.size 6 A' (partsF 13 zi ze zg f h).length (nds (partsF 13 zi ze zg f h)) ∧ Below w.heap.size w w' := by
  have HUX : Hid (∀ W, Calls Try.prog 45 #[.int .i64 13] W fun e w' => e = .returned (.bool true) ∧ W = w') := Lib.hid (fun W => rUsesX_any 13 rfl W)
  have HUY : Hid (∀ W, Calls Try.prog 46 #[.int .i64 13] W fun e w' => e = .returned (.bool true) ∧ W = w') := Lib.hid (fun W => rUsesY_any 13 rfl W)
  have HC : Hid (∀ W, Below w.heap.size w W → Calls Try.prog 78 #[.agg #[.int .i64 13, .int .i64 0, .int .i64 0, .int .i64 zg, .int .i64 0, .int .i64 0], .slice Af nf cf, .slice Ah nh ch] W fun e w' => ∃ A' c', e = .returned (.slice A' (partsF 13 zi ze zg f h).length c') ∧ Reads w' w'.heap.size 6 A' (partsF 13 zi ze zg f h).length (nds (partsF 13 zi ze zg f h)) ∧ Below W.heap.size W w') := Lib.hid (fun W hb => by
    rw [show partsF 13 zi ze zg f h = buildF ⟨13, 0, 0, zg, 0, 0⟩ [f, h] from rfl, buildF_bin (n := ⟨13, 0, 0, zg, 0, 0⟩) (f := f) (g := h) rfl ⟨Or.inr (Or.inr (Or.inr rfl)), Or.inr rfl, Or.inl rfl⟩ rfl rfl]
    exact rBinary_any ⟨13, 0, 0, zg, 0, 0⟩ f h Af Ah nf cf nh ch W ((hRf.below hb).more hb.size) hmf ((hRh.below hb).more hb.size) hmh)
  have HB0 : Hid (Below w.heap.size w ((w.alloc (.cells #[.int .i64 13, .int .i64 zi, .int .i64 ze, .int .i64 zg, .slice Af nf cf, .slice Ah nh ch] 35)).alloc (.cells #[.int .i64 13, .int .i64 0, .int .i64 0, .int .i64 zg, .int .i64 0, .int .i64 0] 44))) := Lib.hid (((Below.refl _ w).alloc (Nat.le_refl _) _).alloc (by simp) _)
  generalize partsF 13 zi ze zg f h = q at *
  clear hRf hRh
  go_enter Try.func39, Try.ntmps39
  go_wp2_with fail
  refine (HUY.out _).mono ?_
  rintro e w1 ⟨rfl, rfl⟩
  go_wp2_with fail
  refine (HC.out _ HB0.out).mono ?_
  rintro e w2 ⟨A', c', rfl, hR2, hb2⟩
  have HR2 := Lib.hid hR2
  have HB2 := Lib.hid (HB0.out.trans (hb2.mono HB0.out.size))
  clear hR2 hb2
  go_wp2
  go_ret
  exact ⟨A', c', rfl, HR2.out, HB2.out⟩
set_option maxRecDepth 100000 in
set_option maxHeartbeats 2000000 in
theorem want_14 (zi ze zg : Int) (f : List Nd) (Af : Option Addr) (nf cf : Nat) (h : List Nd) (Ah : Option Addr) (nh ch : Nat) (w : World) (hRf : Reads w w.heap.size 6 Af nf (nds f)) (hmf : nf ≤ maxLen) (hRh : Reads w w.heap.size 6 Ah nh (nds h)) (hmh : nh ≤ maxLen) :
    Calls Try.prog 39 #[.agg #[.int .i64 14, .int .i64 zi, .int .i64 ze, .int .i64 zg, .slice Af nf cf, .slice Ah nh ch]] w fun e w' => ∃ A' c', e = .returned (.slice A' (partsF 14 zi ze zg f h).length c') ∧ Reads w' w'.heap.size 6 A' (partsF 14 zi ze zg f h).length (nds (partsF 14 zi ze zg f h)) ∧ Below w.heap.size w w' := by
  have HUX : Hid (∀ W, Calls Try.prog 45 #[.int .i64 14] W fun e w' => e = .returned (.bool true) ∧ W = w') := Lib.hid (fun W => rUsesX_any 14 rfl W)
  have HUY : Hid (∀ W, Calls Try.prog 46 #[.int .i64 14] W fun e w' => e = .returned (.bool true) ∧ W = w') := Lib.hid (fun W => rUsesY_any 14 rfl W)
  have HC : Hid (∀ W, Below w.heap.size w W → Calls Try.prog 78 #[.agg #[.int .i64 14, .int .i64 zi, .int .i64 0, .int .i64 0, .int .i64 0, .int .i64 0], .slice Af nf cf, .slice Ah nh ch] W fun e w' => ∃ A' c', e = .returned (.slice A' (partsF 14 zi ze zg f h).length c') ∧ Reads w' w'.heap.size 6 A' (partsF 14 zi ze zg f h).length (nds (partsF 14 zi ze zg f h)) ∧ Below W.heap.size W w') := Lib.hid (fun W hb => by
    rw [show partsF 14 zi ze zg f h = buildF ⟨14, zi, 0, 0, 0, 0⟩ [f, h] from rfl, buildF_bin (n := ⟨14, zi, 0, 0, 0, 0⟩) (f := f) (g := h) rfl ⟨Or.inr (Or.inl rfl), Or.inr rfl, Or.inr rfl⟩ rfl rfl]
    exact rBinary_any ⟨14, zi, 0, 0, 0, 0⟩ f h Af Ah nf cf nh ch W ((hRf.below hb).more hb.size) hmf ((hRh.below hb).more hb.size) hmh)
  have HB0 : Hid (Below w.heap.size w ((w.alloc (.cells #[.int .i64 14, .int .i64 zi, .int .i64 ze, .int .i64 zg, .slice Af nf cf, .slice Ah nh ch] 35)).alloc (.cells #[.int .i64 14, .int .i64 zi, .int .i64 0, .int .i64 0, .int .i64 0, .int .i64 0] 44))) := Lib.hid (((Below.refl _ w).alloc (Nat.le_refl _) _).alloc (by simp) _)
  generalize partsF 14 zi ze zg f h = q at *
  clear hRf hRh
  go_enter Try.func39, Try.ntmps39
  go_wp2_with fail
  refine (HUY.out _).mono ?_
  rintro e w1 ⟨rfl, rfl⟩
  go_wp2_with fail
  refine (HC.out _ HB0.out).mono ?_
  rintro e w2 ⟨A', c', rfl, hR2, hb2⟩
  have HR2 := Lib.hid hR2
  have HB2 := Lib.hid (HB0.out.trans (hb2.mono HB0.out.size))
  clear hR2 hb2
  go_wp2
  go_ret
  exact ⟨A', c', rfl, HR2.out, HB2.out⟩
set_option maxRecDepth 100000 in
set_option maxHeartbeats 2000000 in
theorem want_15 (zi ze zg : Int) (f : List Nd) (Af : Option Addr) (nf cf : Nat) (h : List Nd) (Ah : Option Addr) (nh ch : Nat) (w : World) (hRf : Reads w w.heap.size 6 Af nf (nds f)) (hmf : nf ≤ maxLen) (_hRh : Reads w w.heap.size 6 Ah nh (nds h)) (_hmh : nh ≤ maxLen) :
    Calls Try.prog 39 #[.agg #[.int .i64 15, .int .i64 zi, .int .i64 ze, .int .i64 zg, .slice Af nf cf, .slice Ah nh ch]] w fun e w' => ∃ A' c', e = .returned (.slice A' (partsF 15 zi ze zg f h).length c') ∧ Reads w' w'.heap.size 6 A' (partsF 15 zi ze zg f h).length (nds (partsF 15 zi ze zg f h)) ∧ Below w.heap.size w w' := by
  have HUX : Hid (∀ W, Calls Try.prog 45 #[.int .i64 15] W fun e w' => e = .returned (.bool true) ∧ W = w') := Lib.hid (fun W => rUsesX_any 15 rfl W)
  have HUY : Hid (∀ W, Calls Try.prog 46 #[.int .i64 15] W fun e w' => e = .returned (.bool false) ∧ W = w') := Lib.hid (fun W => rUsesY_any 15 rfl W)
  have HC : Hid (∀ W, Below w.heap.size w W → Calls Try.prog 79 #[.agg #[.int .i64 15, .int .i64 zi, .int .i64 0, .int .i64 0, .int .i64 0, .int .i64 0], .slice Af nf cf] W fun e w' => ∃ A' c', e = .returned (.slice A' (partsF 15 zi ze zg f h).length c') ∧ Reads w' w'.heap.size 6 A' (partsF 15 zi ze zg f h).length (nds (partsF 15 zi ze zg f h)) ∧ Below W.heap.size W w') := Lib.hid (fun W hb => by
    rw [show partsF 15 zi ze zg f h = buildF ⟨15, zi, 0, 0, 0, 0⟩ [f] from rfl, buildF_un (n := ⟨15, zi, 0, 0, 0, 0⟩) (f := f) rfl ⟨Or.inr (Or.inl rfl), Or.inr rfl, Or.inr rfl⟩ rfl rfl rfl]
    exact rUnary_any ⟨15, zi, 0, 0, 0, 0⟩ f Af nf cf W ((hRf.below hb).more hb.size) hmf)
  have HB0 : Hid (Below w.heap.size w ((w.alloc (.cells #[.int .i64 15, .int .i64 zi, .int .i64 ze, .int .i64 zg, .slice Af nf cf, .slice Ah nh ch] 35)).alloc (.cells #[.int .i64 15, .int .i64 zi, .int .i64 0, .int .i64 0, .int .i64 0, .int .i64 0] 44))) := Lib.hid (((Below.refl _ w).alloc (Nat.le_refl _) _).alloc (by simp) _)
  generalize partsF 15 zi ze zg f h = q at *
  clear hRf _hRh
  go_enter Try.func39, Try.ntmps39
  go_wp2_with fail
  refine (HUY.out _).mono ?_
  rintro e w1 ⟨rfl, rfl⟩
  go_wp2_with fail
  refine (HUX.out _).mono ?_
  rintro e w1 ⟨rfl, rfl⟩
  go_wp2_with fail
  refine (HC.out _ HB0.out).mono ?_
  rintro e w2 ⟨A', c', rfl, hR2, hb2⟩
  have HR2 := Lib.hid hR2
  have HB2 := Lib.hid (HB0.out.trans (hb2.mono HB0.out.size))
  clear hR2 hb2
  go_wp2
  go_ret
  exact ⟨A', c', rfl, HR2.out, HB2.out⟩
set_option maxRecDepth 100000 in
set_option maxHeartbeats 2000000 in
theorem want_16 (zi ze zg : Int) (f : List Nd) (Af : Option Addr) (nf cf : Nat) (h : List Nd) (Ah : Option Addr) (nh ch : Nat) (w : World) (hRf : Reads w w.heap.size 6 Af nf (nds f)) (hmf : nf ≤ maxLen) (hRh : Reads w w.heap.size 6 Ah nh (nds h)) (hmh : nh ≤ maxLen) :
    Calls Try.prog 39 #[.agg #[.int .i64 16, .int .i64 zi, .int .i64 ze, .int .i64 zg, .slice Af nf cf, .slice Ah nh ch]] w fun e w' => ∃ A' c', e = .returned (.slice A' (partsF 16 zi ze zg f h).length c') ∧ Reads w' w'.heap.size 6 A' (partsF 16 zi ze zg f h).length (nds (partsF 16 zi ze zg f h)) ∧ Below w.heap.size w w' := by
  have HUX : Hid (∀ W, Calls Try.prog 45 #[.int .i64 16] W fun e w' => e = .returned (.bool true) ∧ W = w') := Lib.hid (fun W => rUsesX_any 16 rfl W)
  have HUY : Hid (∀ W, Calls Try.prog 46 #[.int .i64 16] W fun e w' => e = .returned (.bool true) ∧ W = w') := Lib.hid (fun W => rUsesY_any 16 rfl W)
  have HC : Hid (∀ W, Below w.heap.size w W → Calls Try.prog 78 #[.agg #[.int .i64 16, .int .i64 0, .int .i64 0, .int .i64 0, .int .i64 0, .int .i64 0], .slice Af nf cf, .slice Ah nh ch] W fun e w' => ∃ A' c', e = .returned (.slice A' (partsF 16 zi ze zg f h).length c') ∧ Reads w' w'.heap.size 6 A' (partsF 16 zi ze zg f h).length (nds (partsF 16 zi ze zg f h)) ∧ Below W.heap.size W w') := Lib.hid (fun W hb => by
    rw [show partsF 16 zi ze zg f h = buildF ⟨16, 0, 0, 0, 0, 0⟩ [f, h] from rfl, buildF_bin (n := ⟨16, 0, 0, 0, 0, 0⟩) (f := f) (g := h) rfl ⟨Or.inr (Or.inr (Or.inr rfl)), Or.inr rfl, Or.inr rfl⟩ rfl rfl]
    exact rBinary_any ⟨16, 0, 0, 0, 0, 0⟩ f h Af Ah nf cf nh ch W ((hRf.below hb).more hb.size) hmf ((hRh.below hb).more hb.size) hmh)
  have HB0 : Hid (Below w.heap.size w ((w.alloc (.cells #[.int .i64 16, .int .i64 zi, .int .i64 ze, .int .i64 zg, .slice Af nf cf, .slice Ah nh ch] 35)).alloc (.cells #[.int .i64 16, .int .i64 0, .int .i64 0, .int .i64 0, .int .i64 0, .int .i64 0] 44))) := Lib.hid (((Below.refl _ w).alloc (Nat.le_refl _) _).alloc (by simp) _)
  generalize partsF 16 zi ze zg f h = q at *
  clear hRf hRh
  go_enter Try.func39, Try.ntmps39
  go_wp2_with fail
  refine (HUY.out _).mono ?_
  rintro e w1 ⟨rfl, rfl⟩
  go_wp2_with fail
  refine (HC.out _ HB0.out).mono ?_
  rintro e w2 ⟨A', c', rfl, hR2, hb2⟩
  have HR2 := Lib.hid hR2
  have HB2 := Lib.hid (HB0.out.trans (hb2.mono HB0.out.size))
  clear hR2 hb2
  go_wp2
  go_ret
  exact ⟨A', c', rfl, HR2.out, HB2.out⟩
set_option maxRecDepth 100000 in
set_option maxHeartbeats 2000000 in
theorem want_17 (zi ze zg : Int) (f : List Nd) (Af : Option Addr) (nf cf : Nat) (h : List Nd) (Ah : Option Addr) (nh ch : Nat) (w : World) (hRf : Reads w w.heap.size 6 Af nf (nds f)) (hmf : nf ≤ maxLen) (_hRh : Reads w w.heap.size 6 Ah nh (nds h)) (_hmh : nh ≤ maxLen) :
    Calls Try.prog 39 #[.agg #[.int .i64 17, .int .i64 zi, .int .i64 ze, .int .i64 zg, .slice Af nf cf, .slice Ah nh ch]] w fun e w' => ∃ A' c', e = .returned (.slice A' (partsF 17 zi ze zg f h).length c') ∧ Reads w' w'.heap.size 6 A' (partsF 17 zi ze zg f h).length (nds (partsF 17 zi ze zg f h)) ∧ Below w.heap.size w w' := by
  have HUX : Hid (∀ W, Calls Try.prog 45 #[.int .i64 17] W fun e w' => e = .returned (.bool true) ∧ W = w') := Lib.hid (fun W => rUsesX_any 17 rfl W)
  have HUY : Hid (∀ W, Calls Try.prog 46 #[.int .i64 17] W fun e w' => e = .returned (.bool false) ∧ W = w') := Lib.hid (fun W => rUsesY_any 17 rfl W)
  have HC : Hid (∀ W, Below w.heap.size w W → Calls Try.prog 79 #[.agg #[.int .i64 17, .int .i64 zi, .int .i64 ze, .int .i64 0, .int .i64 0, .int .i64 0], .slice Af nf cf] W fun e w' => ∃ A' c', e = .returned (.slice A' (partsF 17 zi ze zg f h).length c') ∧ Reads w' w'.heap.size 6 A' (partsF 17 zi ze zg f h).length (nds (partsF 17 zi ze zg f h)) ∧ Below W.heap.size W w') := Lib.hid (fun W hb => by
    rw [show partsF 17 zi ze zg f h = buildF ⟨17, zi, ze, 0, 0, 0⟩ [f] from rfl, buildF_un (n := ⟨17, zi, ze, 0, 0, 0⟩) (f := f) rfl ⟨Or.inr (Or.inr (Or.inl rfl)), Or.inl rfl, Or.inr rfl⟩ rfl rfl rfl]
    exact rUnary_any ⟨17, zi, ze, 0, 0, 0⟩ f Af nf cf W ((hRf.below hb).more hb.size) hmf)
  have HB0 : Hid (Below w.heap.size w ((w.alloc (.cells #[.int .i64 17, .int .i64 zi, .int .i64 ze, .int .i64 zg, .slice Af nf cf, .slice Ah nh ch] 35)).alloc (.cells #[.int .i64 17, .int .i64 zi, .int .i64 ze, .int .i64 0, .int .i64 0, .int .i64 0] 44))) := Lib.hid (((Below.refl _ w).alloc (Nat.le_refl _) _).alloc (by simp) _)
  generalize partsF 17 zi ze zg f h = q at *
  clear hRf _hRh
  go_enter Try.func39, Try.ntmps39
  go_wp2_with fail
  refine (HUY.out _).mono ?_
  rintro e w1 ⟨rfl, rfl⟩
  go_wp2_with fail
  refine (HUX.out _).mono ?_
  rintro e w1 ⟨rfl, rfl⟩
  go_wp2_with fail
  refine (HC.out _ HB0.out).mono ?_
  rintro e w2 ⟨A', c', rfl, hR2, hb2⟩
  have HR2 := Lib.hid hR2
  have HB2 := Lib.hid (HB0.out.trans (hb2.mono HB0.out.size))
  clear hR2 hb2
  go_wp2
  go_ret
  exact ⟨A', c', rfl, HR2.out, HB2.out⟩
set_option maxRecDepth 100000 in
set_option maxHeartbeats 2000000 in
theorem want_18 (zi ze zg : Int) (f : List Nd) (Af : Option Addr) (nf cf : Nat) (h : List Nd) (Ah : Option Addr) (nh ch : Nat) (w : World) (hRf : Reads w w.heap.size 6 Af nf (nds f)) (hmf : nf ≤ maxLen) (_hRh : Reads w w.heap.size 6 Ah nh (nds h)) (_hmh : nh ≤ maxLen) :
    Calls Try.prog 39 #[.agg #[.int .i64 18, .int .i64 zi, .int .i64 ze, .int .i64 zg, .slice Af nf cf, .slice Ah nh ch]] w fun e w' => ∃ A' c', e = .returned (.slice A' (partsF 18 zi ze zg f h).length c') ∧ Reads w' w'.heap.size 6 A' (partsF 18 zi ze zg f h).length (nds (partsF 18 zi ze zg f h)) ∧ Below w.heap.size w w' := by
  have HUX : Hid (∀ W, Calls Try.prog 45 #[.int .i64 18] W fun e w' => e = .returned (.bool true) ∧ W = w') := Lib.hid (fun W => rUsesX_any 18 rfl W)
  have HUY : Hid (∀ W, Calls Try.prog 46 #[.int .i64 18] W fun e w' => e = .returned (.bool false) ∧ W = w') := Lib.hid (fun W => rUsesY_any 18 rfl W)
  have HC : Hid (∀ W, Below w.heap.size w W → Calls Try.prog 79 #[.agg #[.int .i64 18, .int .i64 0, .int .i64 0, .int .i64 0, .int .i64 0, .int .i64 0], .slice Af nf cf] W fun e w' => ∃ A' c', e = .returned (.slice A' (partsF 18 zi ze zg f h).length c') ∧ Reads w' w'.heap.size 6 A' (partsF 18 zi ze zg f h).length (nds (partsF 18 zi ze zg f h)) ∧ Below W.heap.size W w') := Lib.hid (fun W hb => by
    rw [show partsF 18 zi ze zg f h = buildF ⟨18, 0, 0, 0, 0, 0⟩ [f] from rfl, buildF_un (n := ⟨18, 0, 0, 0, 0, 0⟩) (f := f) rfl ⟨Or.inr (Or.inr (Or.inr rfl)), Or.inr rfl, Or.inr rfl⟩ rfl rfl rfl]
    exact rUnary_any ⟨18, 0, 0, 0, 0, 0⟩ f Af nf cf W ((hRf.below hb).more hb.size) hmf)
  have HB0 : Hid (Below w.heap.size w ((w.alloc (.cells #[.int .i64 18, .int .i64 zi, .int .i64 ze, .int .i64 zg, .slice Af nf cf, .slice Ah nh ch] 35)).alloc (.cells #[.int .i64 18, .int .i64 0, .int .i64 0, .int .i64 0, .int .i64 0, .int .i64 0] 44))) := Lib.hid (((Below.refl _ w).alloc (Nat.le_refl _) _).alloc (by simp) _)
  generalize partsF 18 zi ze zg f h = q at *
  clear hRf _hRh
  go_enter Try.func39, Try.ntmps39
  go_wp2_with fail
  refine (HUY.out _).mono ?_
  rintro e w1 ⟨rfl, rfl⟩
  go_wp2_with fail
  refine (HUX.out _).mono ?_
  rintro e w1 ⟨rfl, rfl⟩
  go_wp2_with fail
  refine (HC.out _ HB0.out).mono ?_
  rintro e w2 ⟨A', c', rfl, hR2, hb2⟩
  have HR2 := Lib.hid hR2
  have HB2 := Lib.hid (HB0.out.trans (hb2.mono HB0.out.size))
  clear hR2 hb2
  go_wp2
  go_ret
  exact ⟨A', c', rfl, HR2.out, HB2.out⟩
set_option maxRecDepth 100000 in
set_option maxHeartbeats 2000000 in
theorem want_19 (zi ze zg : Int) (f : List Nd) (Af : Option Addr) (nf cf : Nat) (h : List Nd) (Ah : Option Addr) (nh ch : Nat) (w : World) (hRf : Reads w w.heap.size 6 Af nf (nds f)) (hmf : nf ≤ maxLen) (hRh : Reads w w.heap.size 6 Ah nh (nds h)) (hmh : nh ≤ maxLen) :
    Calls Try.prog 39 #[.agg #[.int .i64 19, .int .i64 zi, .int .i64 ze, .int .i64 zg, .slice Af nf cf, .slice Ah nh ch]] w fun e w' => ∃ A' c', e = .returned (.slice A' (partsF 19 zi ze zg f h).length c') ∧ Reads w' w'.heap.size 6 A' (partsF 19 zi ze zg f h).length (nds (partsF 19 zi ze zg f h)) ∧ Below w.heap.size w w' := by
  have HUX : Hid (∀ W, Calls Try.prog 45 #[.int .i64 19] W fun e w' => e = .returned (.bool true) ∧ W = w') := Lib.hid (fun W => rUsesX_any 19 rfl W)
  have HUY : Hid (∀ W, Calls Try.prog 46 #[.int .i64 19] W fun e w' => e = .returned (.bool true) ∧ W = w') := Lib.hid (fun W => rUsesY_any 19 rfl W)
  have HC : Hid (∀ W, Below w.heap.size w W → Calls Try.prog 78 #[.agg #[.int .i64 19, .int .i64 0, .int .i64 0, .int .i64 0, .int .i64 0, .int .i64 0], .slice Af nf cf, .slice Ah nh ch] W fun e w' => ∃ A' c', e = .returned (.slice A' (partsF 19 zi ze zg f h).length c') ∧ Reads w' w'.heap.size 6 A' (partsF 19 zi ze zg f h).length (nds (partsF 19 zi ze zg f h)) ∧ Below W.heap.size W w') := Lib.hid (fun W hb => by
    rw [show partsF 19 zi ze zg f h = buildF ⟨19, 0, 0, 0, 0, 0⟩ [f, h] from rfl, buildF_bin (n := ⟨19, 0, 0, 0, 0, 0⟩) (f := f) (g := h) rfl ⟨Or.inr (Or.inr (Or.inr rfl)), Or.inr rfl, Or.inr rfl⟩ rfl rfl]
    exact rBinary_any ⟨19, 0, 0, 0, 0, 0⟩ f h Af Ah nf cf nh ch W ((hRf.below hb).more hb.size) hmf ((hRh.below hb).more hb.size) hmh)
  have HB0 : Hid (Below w.heap.size w ((w.alloc (.cells #[.int .i64 19, .int .i64 zi, .int .i64 ze, .int .i64 zg, .slice Af nf cf, .slice Ah nh ch] 35)).alloc (.cells #[.int .i64 19, .int .i64 0, .int .i64 0, .int .i64 0, .int .i64 0, .int .i64 0] 44))) := Lib.hid (((Below.refl _ w).alloc (Nat.le_refl _) _).alloc (by simp) _)
  generalize partsF 19 zi ze zg f h = q at *
  clear hRf hRh
  go_enter Try.func39, Try.ntmps39
  go_wp2_with fail
  refine (HUY.out _).mono ?_
  rintro e w1 ⟨rfl, rfl⟩
  go_wp2_with fail
  refine (HC.out _ HB0.out).mono ?_
  rintro e w2 ⟨A', c', rfl, hR2, hb2⟩
  have HR2 := Lib.hid hR2
  have HB2 := Lib.hid (HB0.out.trans (hb2.mono HB0.out.size))
  clear hR2 hb2
  go_wp2
  go_ret
  exact ⟨A', c', rfl, HR2.out, HB2.out⟩
set_option maxRecDepth 100000 in
set_option maxHeartbeats 2000000 in
theorem want_20 (zi ze zg : Int) (f : List Nd) (Af : Option Addr) (nf cf : Nat) (h : List Nd) (Ah : Option Addr) (nh ch : Nat) (w : World) (hRf : Reads w w.heap.size 6 Af nf (nds f)) (hmf : nf ≤ maxLen) (_hRh : Reads w w.heap.size 6 Ah nh (nds h)) (_hmh : nh ≤ maxLen) :
    Calls Try.prog 39 #[.agg #[.int .i64 20, .int .i64 zi, .int .i64 ze, .int .i64 zg, .slice Af nf cf, .slice Ah nh ch]] w fun e w' => ∃ A' c', e = .returned (.slice A' (partsF 20 zi ze zg f h).length c') ∧ Reads w' w'.heap.size 6 A' (partsF 20 zi ze zg f h).length (nds (partsF 20 zi ze zg f h)) ∧ Below w.heap.size w w' := by
  have HUX : Hid (∀ W, Calls Try.prog 45 #[.int .i64 20] W fun e w' => e = .returned (.bool true) ∧ W = w') := Lib.hid (fun W => rUsesX_any 20 rfl W)
  have HUY : Hid (∀ W, Calls Try.prog 46 #[.int .i64 20] W fun e w' => e = .returned (.bool false) ∧ W = w') := Lib.hid (fun W => rUsesY_any 20 rfl W)
  have HC : Hid (∀ W, Below w.heap.size w W → Calls Try.prog 79 #[.agg #[.int .i64 20, .int .i64 0, .int .i64 0, .int .i64 0, .int .i64 0, .int .i64 0], .slice Af nf cf] W fun e w' => ∃ A' c', e = .returned (.slice A' (partsF 20 zi ze zg f h).length c') ∧ Reads w' w'.heap.size 6 A' (partsF 20 zi ze zg f h).length (nds (partsF 20 zi ze zg f h)) ∧ Below W.heap.size W w') := Lib.hid (fun W hb => by
    rw [show partsF 20 zi ze zg f h = buildF ⟨20, 0, 0, 0, 0, 0⟩ [f] from rfl, buildF_un (n := ⟨20, 0, 0, 0, 0, 0⟩) (f := f) rfl ⟨Or.inr (Or.inr (Or.inr rfl)), Or.inr rfl, Or.inr rfl⟩ rfl rfl rfl]
    exact rUnary_any ⟨20, 0, 0, 0, 0, 0⟩ f Af nf cf W ((hRf.below hb).more hb.size) hmf)
  have HB0 : Hid (Below w.heap.size w ((w.alloc (.cells #[.int .i64 20, .int .i64 zi, .int .i64 ze, .int .i64 zg, .slice Af nf cf, .slice Ah nh ch] 35)).alloc (.cells #[.int .i64 20, .int .i64 0, .int .i64 0, .int .i64 0, .int .i64 0, .int .i64 0] 44))) := Lib.hid (((Below.refl _ w).alloc (Nat.le_refl _) _).alloc (by simp) _)
  generalize partsF 20 zi ze zg f h = q at *
  clear hRf _hRh
  go_enter Try.func39, Try.ntmps39
  go_wp2_with fail
  refine (HUY.out _).mono ?_
  rintro e w1 ⟨rfl, rfl⟩
  go_wp2_with fail
  refine (HUX.out _).mono ?_
  rintro e w1 ⟨rfl, rfl⟩
  go_wp2_with fail
  refine (HC.out _ HB0.out).mono ?_
  rintro e w2 ⟨A', c', rfl, hR2, hb2⟩
  have HR2 := Lib.hid hR2
  have HB2 := Lib.hid (HB0.out.trans (hb2.mono HB0.out.size))
  clear hR2 hb2
  go_wp2
  go_ret
  exact ⟨A', c', rfl, HR2.out, HB2.out⟩
set_option maxRecDepth 100000 in
set_option maxHeartbeats 2000000 in
theorem want_21 (zi ze zg : Int) (f : List Nd) (Af : Option Addr) (nf cf : Nat) (h : List Nd) (Ah : Option Addr) (nh ch : Nat) (w : World) (hRf : Reads w w.heap.size 6 Af nf (nds f)) (hmf : nf ≤ maxLen) (hRh : Reads w w.heap.size 6 Ah nh (nds h)) (hmh : nh ≤ maxLen) :
    Calls Try.prog 39 #[.agg #[.int .i64 21, .int .i64 zi, .int .i64 ze, .int .i64 zg, .slice Af nf cf, .slice Ah nh ch]] w fun e w' => ∃ A' c', e = .returned (.slice A' (partsF 21 zi ze zg f h).length c') ∧ Reads w' w'.heap.size 6 A' (partsF 21 zi ze zg f h).length (nds (partsF 21 zi ze zg f h)) ∧ Below w.heap.size w w' := by
  have HUX : Hid (∀ W, Calls Try.prog 45 #[.int .i64 21] W fun e w' => e = .returned (.bool true) ∧ W = w') := Lib.hid (fun W => rUsesX_any 21 rfl W)
  have HUY : Hid (∀ W, Calls Try.prog 46 #[.int .i64 21] W fun e w' => e = .returned (.bool true) ∧ W = w') := Lib.hid (fun W => rUsesY_any 21 rfl W)
  have HC : Hid (∀ W, Below w.heap.size w W → Calls Try.prog 78 #[.agg #[.int .i64 21, .int .i64 0, .int .i64 0, .int .i64 0, .int .i64 0, .int .i64 0], .slice Af nf cf, .slice Ah nh ch] W fun e w' => ∃ A' c', e = .returned (.slice A' (partsF 21 zi ze zg f h).length c') ∧ Reads w' w'.heap.size 6 A' (partsF 21 zi ze zg f h).length (nds (partsF 21 zi ze zg f h)) ∧ Below W.heap.size W w') := Lib.hid (fun W hb => by
    rw [show partsF 21 zi ze zg f h = buildF ⟨21, 0, 0, 0, 0, 0⟩ [f, h] from rfl, buildF_bin (n := ⟨21, 0, 0, 0, 0, 0⟩) (f := f) (g := h) rfl ⟨Or.inr (Or.inr (Or.inr rfl)), Or.inr rfl, Or.inr rfl⟩ rfl rfl]
    exact rBinary_any ⟨21, 0, 0, 0, 0, 0⟩ f h Af Ah nf cf nh ch W ((hRf.below hb).more hb.size) hmf ((hRh.below hb).more hb.size) hmh)
  have HB0 : Hid (Below w.heap.size w ((w.alloc (.cells #[.int .i64 21, .int .i64 zi, .int .i64 ze, .int .i64 zg, .slice Af nf cf, .slice Ah nh ch] 35)).alloc (.cells #[.int .i64 21, .int .i64 0, .int .i64 0, .int .i64 0, .int .i64 0, .int .i64 0] 44))) := Lib.hid (((Below.refl _ w).alloc (Nat.le_refl _) _).alloc (by simp) _)
  generalize partsF 21 zi ze zg f h = q at *
  clear hRf hRh
  go_enter Try.func39, Try.ntmps39
  go_wp2_with fail
  refine (HUY.out _).mono ?_
  rintro e w1 ⟨rfl, rfl⟩
  go_wp2_with fail
  refine (HC.out _ HB0.out).mono ?_
  rintro e w2 ⟨A', c', rfl, hR2, hb2⟩
  have HR2 := Lib.hid hR2
  have HB2 := Lib.hid (HB0.out.trans (hb2.mono HB0.out.size))
  clear hR2 hb2
  go_wp2
  go_ret
  exact ⟨A', c', rfl, HR2.out, HB2.out⟩
set_option maxRecDepth 100000 in
theorem rest_any (k : Int) (hk : known k = true) (hk2 : 12 ≤ k) (zi ze zg : Int) (f : List Nd) (Af : Option Addr) (nf cf : Nat) (h : List Nd) (Ah : Option Addr) (nh ch : Nat) (w : World) (hRf : Reads w w.heap.size 6 Af nf (nds f)) (hmf : nf ≤ maxLen) (hRh : Reads w w.heap.size 6 Ah nh (nds h)) (hmh : nh ≤ maxLen) :
    Calls Try.prog 77 #[.agg #[.int .i64 k, .int .i64 zi, .int .i64 ze, .int .i64 zg, .slice Af nf cf, .slice Ah nh ch]] w fun e w' => ∃ A' c', e = .returned (.slice A' (partsF k zi ze zg f h).length c') ∧ Reads w' w'.heap.size 6 A' (partsF k zi ze zg f h).length (nds (partsF k zi ze zg f h)) ∧ Below w.heap.size w w' := by
  have hc : k = 12 ∨ k = 13 ∨ k = 14 ∨ k = 15 ∨ k = 16 ∨ k = 17 ∨ k = 18 ∨ k = 19 ∨ k = 20 ∨ k = 21 := by
    unfold known at hk
    simp only [Bool.and_eq_true, decide_eq_true_eq] at hk
    omega
  rcases hc with rfl | rfl | rfl | rfl | rfl | rfl | rfl | rfl | rfl | rfl
  · exact con_12 zi ze zg f Af nf cf h Ah nh ch w hRf hmf hRh hmh
  · exact con_13 zi ze zg f Af nf cf h Ah nh ch w hRf hmf hRh hmh
  · exact con_14 zi ze zg f Af nf cf h Ah nh ch w hRf hmf hRh hmh
  · exact con_15 zi ze zg f Af nf cf h Ah nh ch w hRf hmf hRh hmh
  · exact con_16 zi ze zg f Af nf cf h Ah nh ch w hRf hmf hRh hmh
  · exact con_17 zi ze zg f Af nf cf h Ah nh ch w hRf hmf hRh hmh
  · exact con_18 zi ze zg f Af nf cf h Ah nh ch w hRf hmf hRh hmh
  · exact con_19 zi ze zg f Af nf cf h Ah nh ch w hRf hmf hRh hmh
  · exact con_20 zi ze zg f Af nf cf h Ah nh ch w hRf hmf hRh hmh
  · exact con_21 zi ze zg f Af nf cf h Ah nh ch w hRf hmf hRh hmh
set_option maxRecDepth 100000 in
theorem build_big (k : Int) (hk : known k = true) (hk2 : 12 ≤ k) (zi ze zg : Int) (f : List Nd) (Af : Option Addr) (nf cf : Nat) (h : List Nd) (Ah : Option Addr) (nh ch : Nat) (w : World) (hRf : Reads w w.heap.size 6 Af nf (nds f)) (hmf : nf ≤ maxLen) (hRh : Reads w w.heap.size 6 Ah nh (nds h)) (hmh : nh ≤ maxLen) :
    Calls Try.prog 38 #[.agg #[.int .i64 k, .int .i64 zi, .int .i64 ze, .int .i64 zg, .slice Af nf cf, .slice Ah nh ch]] w fun e w' => ∃ A' c', e = .returned (.slice A' (partsF k zi ze zg f h).length c') ∧ Reads w' w'.heap.size 6 A' (partsF k zi ze zg f h).length (nds (partsF k zi ze zg f h)) ∧ Below w.heap.size w w' := by
  have HC : Hid (∀ W, Below w.heap.size w W → Calls Try.prog 77 #[.agg #[.int .i64 k, .int .i64 zi, .int .i64 ze, .int .i64 zg, .slice Af nf cf, .slice Ah nh ch]] W fun e w' => ∃ A' c', e = .returned (.slice A' (partsF k zi ze zg f h).length c') ∧ Reads w' w'.heap.size 6 A' (partsF k zi ze zg f h).length (nds (partsF k zi ze zg f h)) ∧ Below W.heap.size W w') := Lib.hid (fun W hb => rest_any k hk hk2 zi ze zg f Af nf cf h Ah nh ch W ((hRf.below hb).more hb.size) hmf ((hRh.below hb).more hb.size) hmh)
  have HB0 : Hid (Below w.heap.size w (w.alloc (.cells #[.int .i64 k, .int .i64 zi, .int .i64 ze, .int .i64 zg, .slice Af nf cf, .slice Ah nh ch] 35))) := Lib.hid ((Below.refl _ w).alloc (Nat.le_refl _) _)
  have e1 : (k == 1) = false := by rw [beq_eq_false_iff_ne]; omega
  have e2 : (k == 2) = false := by rw [beq_eq_false_iff_ne]; omega
  have e3 : (k == 3) = false := by rw [beq_eq_false_iff_ne]; omega
  have e4 : (k == 4) = false := by rw [beq_eq_false_iff_ne]; omega
  have e5 : (k == 5) = false := by rw [beq_eq_false_iff_ne]; omega
  have e6 : (k == 6) = false := by rw [beq_eq_false_iff_ne]; omega
  have e7 : (k == 7) = false := by rw [beq_eq_false_iff_ne]; omega
  have e8 : (k == 8) = false := by rw [beq_eq_false_iff_ne]; omega
  have e9 : (k == 9) = false := by rw [beq_eq_false_iff_ne]; omega
  have e10 : (k == 10) = false := by rw [beq_eq_false_iff_ne]; omega
  have e11 : (k == 11) = false := by rw [beq_eq_false_iff_ne]; omega
  generalize partsF k zi ze zg f h = q at *
  clear hRf hRh hk hk2
  go_enter Try.func38, Try.ntmps38
  go_wp2_with fail
  refine (HC.out _ HB0.out).mono ?_
  rintro e w2 ⟨A', c', rfl, hR2, hb2⟩
  have HR2 := Lib.hid hR2
  have HB2 := Lib.hid (HB0.out.trans (hb2.mono HB0.out.size))
  clear hR2 hb2
  go_wp2
  go_ret
  exact ⟨A', c', rfl, HR2.out, HB2.out⟩
theorem build_any (k : Int) (hk : known k = true) (zi ze zg : Int) (f : List Nd) (Af : Option Addr) (nf cf : Nat) (h : List Nd) (Ah : Option Addr) (nh ch : Nat) (w : World) (hRf : Reads w w.heap.size 6 Af nf (nds f)) (hmf : nf ≤ maxLen) (hRh : Reads w w.heap.size 6 Ah nh (nds h)) (hmh : nh ≤ maxLen) :
    Calls Try.prog 38 #[.agg #[.int .i64 k, .int .i64 zi, .int .i64 ze, .int .i64 zg, .slice Af nf cf, .slice Ah nh ch]] w fun e w' => ∃ A' c', e = .returned (.slice A' (partsF k zi ze zg f h).length c') ∧ Reads w' w'.heap.size 6 A' (partsF k zi ze zg f h).length (nds (partsF k zi ze zg f h)) ∧ Below w.heap.size w w' := by
  have hc : k = 1 ∨ k = 2 ∨ k = 3 ∨ k = 4 ∨ k = 5 ∨ k = 6 ∨ k = 7 ∨ k = 8 ∨ k = 9 ∨ k = 10 ∨ k = 11 ∨ 12 ≤ k := by
    unfold known at hk
    simp only [Bool.and_eq_true, decide_eq_true_eq] at hk
    omega
  rcases hc with rfl | rfl | rfl | rfl | rfl | rfl | rfl | rfl | rfl | rfl | rfl | h12
  · exact con_1 zi ze zg f Af nf cf h Ah nh ch w hRf hmf hRh hmh
  · exact con_2 zi ze zg f Af nf cf h Ah nh ch w hRf hmf hRh hmh
  · exact con_3 zi ze zg f Af nf cf h Ah nh ch w hRf hmf hRh hmh
  · exact con_4 zi ze zg f Af nf cf h Ah nh ch w hRf hmf hRh hmh
  · exact con_5 zi ze zg f Af nf cf h Ah nh ch w hRf hmf hRh hmh
  · exact con_6 zi ze zg f Af nf cf h Ah nh ch w hRf hmf hRh hmh
  · exact con_7 zi ze zg f Af nf cf h Ah nh ch w hRf hmf hRh hmh
  · exact con_8 zi ze zg f Af nf cf h Ah nh ch w hRf hmf hRh hmh
  · exact con_9 zi ze zg f Af nf cf h Ah nh ch w hRf hmf hRh hmh
  · exact con_10 zi ze zg f Af nf cf h Ah nh ch w hRf hmf hRh hmh
  · exact con_11 zi ze zg f Af nf cf h Ah nh ch w hRf hmf hRh hmh
  · exact build_big k hk h12 zi ze zg f Af nf cf h Ah nh ch w hRf hmf hRh hmh
theorem want_any (k : Int) (hk : known k = true) (zi ze zg : Int) (f : List Nd) (Af : Option Addr) (nf cf : Nat) (h : List Nd) (Ah : Option Addr) (nh ch : Nat) (w : World) (hRf : Reads w w.heap.size 6 Af nf (nds f)) (hmf : nf ≤ maxLen) (hRh : Reads w w.heap.size 6 Ah nh (nds h)) (hmh : nh ≤ maxLen) :
    Calls Try.prog 39 #[.agg #[.int .i64 k, .int .i64 zi, .int .i64 ze, .int .i64 zg, .slice Af nf cf, .slice Ah nh ch]] w fun e w' => ∃ A' c', e = .returned (.slice A' (partsF k zi ze zg f h).length c') ∧ Reads w' w'.heap.size 6 A' (partsF k zi ze zg f h).length (nds (partsF k zi ze zg f h)) ∧ Below w.heap.size w w' := by
  rcases known_cases k hk with rfl | rfl | rfl | rfl | rfl | rfl | rfl | rfl | rfl | rfl | rfl | rfl | rfl | rfl | rfl | rfl | rfl | rfl | rfl | rfl | rfl
  · exact want_1 zi ze zg f Af nf cf h Ah nh ch w hRf hmf hRh hmh
  · exact want_2 zi ze zg f Af nf cf h Ah nh ch w hRf hmf hRh hmh
  · exact want_3 zi ze zg f Af nf cf h Ah nh ch w hRf hmf hRh hmh
  · exact want_4 zi ze zg f Af nf cf h Ah nh ch w hRf hmf hRh hmh
  · exact want_5 zi ze zg f Af nf cf h Ah nh ch w hRf hmf hRh hmh
  · exact want_6 zi ze zg f Af nf cf h Ah nh ch w hRf hmf hRh hmh
  · exact want_7 zi ze zg f Af nf cf h Ah nh ch w hRf hmf hRh hmh
  · exact want_8 zi ze zg f Af nf cf h Ah nh ch w hRf hmf hRh hmh
  · exact want_9 zi ze zg f Af nf cf h Ah nh ch w hRf hmf hRh hmh
  · exact want_10 zi ze zg f Af nf cf h Ah nh ch w hRf hmf hRh hmh
  · exact want_11 zi ze zg f Af nf cf h Ah nh ch w hRf hmf hRh hmh
  · exact want_12 zi ze zg f Af nf cf h Ah nh ch w hRf hmf hRh hmh
  · exact want_13 zi ze zg f Af nf cf h Ah nh ch w hRf hmf hRh hmh
  · exact want_14 zi ze zg f Af nf cf h Ah nh ch w hRf hmf hRh hmh
  · exact want_15 zi ze zg f Af nf cf h Ah nh ch w hRf hmf hRh hmh
  · exact want_16 zi ze zg f Af nf cf h Ah nh ch w hRf hmf hRh hmh
  · exact want_17 zi ze zg f Af nf cf h Ah nh ch w hRf hmf hRh hmh
  · exact want_18 zi ze zg f Af nf cf h Ah nh ch w hRf hmf hRh hmh
  · exact want_19 zi ze zg f Af nf cf h Ah nh ch w hRf hmf hRh hmh
  · exact want_20 zi ze zg f Af nf cf h Ah nh ch w hRf hmf hRh hmh
  · exact want_21 zi ze zg f Af nf cf h Ah nh ch w hRf hmf hRh hmh
end Go.Proofs.Ytcbmncafmofcpaa
