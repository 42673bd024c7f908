/- Layer 5: Fits of the program. -/
import Derived.Test.YtcbmncafmofcpaaMf
import Derived.Shelf.Strconv.Itoa0
import Derived.Shelf.Lay
namespace Go.Proofs
open Go.Shelf Go.RowKit
shelf_lay Lays.n129 Nm 129 at Try as Try.lays129
end Go.Proofs
namespace Go.Proofs.Ws
open Go
def belowM (m : Nat) (l : Int) : Bool := decide (m = 0) || decide (((Lib.bitLen m : Nat) : Int) ≤ l)
def fitsF (f : List Nd) (a b : Int) : Bool := decide (fErr f = 0) && (belowM (maskL agentD (compF f)) a && belowM (maskL factD (compF f)) b)
end Go.Proofs.Ws
namespace Go.Proofs.Ytcbmncafmofcpaa
open Go.RowKit Go.Proofs.Ws Go.Maps
theorem len64_any (x : Nat) (w : World) (hx : x < 18446744073709551616) :
    Calls Try.prog 113 #[.int .u64 x] w fun e w' => e = .returned (.int .i64 (Lib.bitLen x)) ∧ w = w' := by
  have h := Any.bits_Len64 Try.lays129 x w (by omega) (by omega)
  rw [Int.toNat_natCast] at h
  exact h.mono fun e w' ⟨h1, h2⟩ => ⟨h1, h2.symm⟩
theorem len_any (x : Nat) (w : World) (hx : x < 512) :
    Calls Try.prog 93 #[.int .u64 x] w fun e w' => e = .returned (.int .i64 (Lib.bitLen x)) ∧ w = w' := by
  have HC := Lib.hid (len64_any x w (by omega))
  generalize Lib.bitLen x = z at *
  go_enter Try.func93, Try.ntmps93
  go_wp2_with fail
  refine (HC.out).mono ?_
  rintro e w1 ⟨rfl, rfl⟩
  go_wp2
  go_ret
  exact ⟨rfl, rfl⟩
theorem allBelow_any (x : Nat) (l : Int) (w : World) (hx : x < 512) :
    Calls Try.prog 63 #[.int .i64 (x : Int), .int .i64 l] w fun e w' => e = .returned (.bool (belowM x l)) ∧ w = w' := by
  by_cases h0 : x = 0
  · have HV : Hid (belowM x l = true) := Lib.hid (by unfold belowM; rw [decide_eq_true h0]; rfl)
    rw [HV.out]
    subst h0
    go_enter Try.func63, Try.ntmps63
    go_wp2
    go_ret
    exact ⟨rfl, rfl⟩
  · have HC := Lib.hid (len_any x w hx)
    have HV : Hid (belowM x l = decide (((Lib.bitLen x : Nat) : Int) ≤ l)) := Lib.hid (by unfold belowM; rw [decide_eq_false h0]; rfl)
    have hb : ((x : Int) == 0) = false := by simp; omega
    have hw : IntKind.u64.wrap (x : Int) = (x : Int) := by rw [IntKind.wrap_u64]; omega
    rw [HV.out]
    clear HV h0
    generalize Lib.bitLen x = z at *
    generalize hd : decide ((z : Int) ≤ l) = b at *
    go_enter Try.func63, Try.ntmps63
    go_wp2_with fail
    refine (HC.out).mono ?_
    rintro e w1 ⟨rfl, rfl⟩
    go_wp2
    go_ret
    exact ⟨rfl, rfl⟩
theorem agentM_lt (f : List Nd) : maskL agentD (compF f) < 512 := maskL_lt _ _ (fun x hx => agentD_lt (compF_fld f x hx))
theorem factM_lt (f : List Nd) : maskL factD (compF f) < 512 := maskL_lt _ _ (fun x hx => factD_lt (compF_fld f x hx))
set_option maxRecDepth 100000 in
theorem pFits_any (f : List Nd) (a b : Int) (A : Option Addr) (n c : Nat) (w : World) (hR : Reads w w.heap.size 6 A n (nds f)) (hm : n ≤ maxLen) :
    Calls Try.prog 22 #[.slice A n c, .int .i64 a, .int .i64 b] w fun e w' => e = .returned (.bool (fitsF f a b)) ∧ Below w.heap.size w w' := by
  have HV := Lib.hid (pValid_any f A n c w hR hm)
  have HA : Hid (∀ W, Below w.heap.size w W → Calls Try.prog 20 #[.slice A n c] W fun e w' => e = .returned (.int .i64 (maskL agentD (compF f) : Int)) ∧ Below W.heap.size W w') := Lib.hid (fun W h => pAgents_any f A n c W ((hR.below h).more h.size) hm)
  have HF : Hid (∀ W, Below w.heap.size w W → Calls Try.prog 18 #[.slice A n c] W fun e w' => e = .returned (.int .i64 (maskL factD (compF f) : Int)) ∧ Below W.heap.size W w') := Lib.hid (fun W h => pFacts_any f A n c W ((hR.below h).more h.size) hm)
  have HBA := Lib.hid (fun W => allBelow_any (maskL agentD (compF f)) a W (agentM_lt f))
  have HBF := Lib.hid (fun W => allBelow_any (maskL factD (compF f)) b W (factM_lt f))
  unfold fitsF
  generalize maskL agentD (compF f) = ma at *
  generalize maskL factD (compF f) = mf at *
  have hE : (fErr f == 0) = decide (fErr f = 0) := by cases h : decide (fErr f = 0) <;> simp_all
  rw [hE] at HV
  generalize decide (fErr f = 0) = z at *
  generalize belowM ma a = ba at *
  generalize belowM mf b = bb at *
  clear hR hE
  cases z
  · go_enter Try.func22, Try.ntmps22
    go_wp2_with fail
    refine (HV.out).mono ?_
    rintro e w1 ⟨rfl, hb1⟩
    have HB1 := Lib.hid hb1
    clear hb1
    go_wp2
    go_ret
    exact ⟨rfl, HB1.out⟩
  · go_enter Try.func22, Try.ntmps22
    go_wp2_with fail
    refine (HV.out).mono ?_
    rintro e w1 ⟨rfl, hb1⟩
    have HB1 := Lib.hid hb1
    clear hb1
    go_wp2_with fail
    refine (HA.out _ HB1.out).mono ?_
    rintro e w2 ⟨rfl, hb2⟩
    have HB2 := Lib.hid (HB1.out.trans (hb2.mono HB1.out.size))
    clear hb2
    go_wp2_with fail
    refine (HBA.out _).mono ?_
    rintro e w3 ⟨rfl, rfl⟩
    cases ba
    · go_wp2
      go_ret
      exact ⟨rfl, HB2.out⟩
    · go_wp2_with fail
      refine (HF.out _ HB2.out).mono ?_
      rintro e w3 ⟨rfl, hb3⟩
      have HB3 := Lib.hid (HB2.out.trans (hb3.mono HB2.out.size))
      clear hb3
      go_wp2_with fail
      refine (HBF.out _).mono ?_
      rintro e w4 ⟨rfl, rfl⟩
      go_wp2
      go_ret
      exact ⟨by simp, HB3.out⟩
end Go.Proofs.Ytcbmncafmofcpaa
