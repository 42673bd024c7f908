/- Layer 6: texts joined: Mu Mv Mw Mz Mx Mp Mk Mt. -/
import Derived.Test.YtopkmcoblndokaaDoorNVj
import Derived.Test.YtopkmcoblndokaaDoorNVk
import Derived.Shelf.Strconv.Itoa0
import Derived.Shelf.Lay
/- Layer 5: the builders of the reference: short, One, Unary, Binary. -/
namespace Go.Proofs.Ws
open Go
end Go.Proofs.Ws
namespace Go.Proofs.YtopkmcoblndokaaDoor
open Go.RowKit Go.Proofs.Ws Go.Maps
set_option maxRecDepth 100000
end Go.Proofs.YtopkmcoblndokaaDoor
/- Layer 5: Binary of the reference. -/
namespace Go.Proofs.YtopkmcoblndokaaDoor
open Go.RowKit Go.Proofs.Ws Go.Maps
set_option maxRecDepth 100000
end Go.Proofs.YtopkmcoblndokaaDoor
/- Layer 5: both ways of building give the same formula. -/
namespace Go.Proofs.YtopkmcoblndokaaDoor
open Go.RowKit Go.Proofs.Ws Go.Maps
set_option maxRecDepth 100000
end Go.Proofs.YtopkmcoblndokaaDoor
/- Layer 5: conjunctions and disjunctions of lists of formulas. -/
namespace Go.Proofs.Ws
open Go
end Go.Proofs.Ws
namespace Go.Proofs.YtopkmcoblndokaaDoor
open Go.RowKit Go.Proofs.Ws Go.Maps
set_option maxRecDepth 100000
/-- a slice of lists of nodes -/
structure LsR (W : World) (B : Nat) (A : Option Addr) (n : Nat) (ls : List (List Nd)) : Prop where
  len : ls.length = n
  ex : ∃ vs, Reads W B 1 A n vs ∧ ∀ j, j < n → ∃ Aj cj, vs[j]? = some (.slice Aj (ls.getD j []).length cj) ∧ Reads W B 6 Aj (ls.getD j []).length (nds (ls.getD j [])) ∧ (ls.getD j []).length ≤ maxLen
theorem LsR.below {W W' : World} {B B2 : Nat} {A : Option Addr} {n : Nat} {ls : List (List Nd)} (h : LsR W B A n ls) (hb : Below B W W') (h2 : B ≤ B2) : LsR W' B2 A n ls := by
  obtain ⟨vs, h1, h3⟩ := h.ex
  refine ⟨h.len, vs, (h1.below hb).more h2, fun j hj => ?_⟩
  obtain ⟨Aj, cj, e1, e2, e3⟩ := h3 j hj
  exact ⟨Aj, cj, e1, (e2.below hb).more h2, e3⟩
theorem LsR.at_ {W : World} {B : Nat} {A : Option Addr} {n k : Nat} {ls : List (List Nd)} (h : LsR W B A n ls) (hk : k < n) :
    ∃ ad Aj cj, A = some ad ∧ ad.block < B ∧ W.cell? (ad.add k) = some (.slice Aj (ls.getD k []).length cj) ∧ Reads W B 6 Aj (ls.getD k []).length (nds (ls.getD k [])) ∧ (ls.getD k []).length ≤ maxLen := by
  obtain ⟨vs, h1, h3⟩ := h.ex
  obtain ⟨Aj, cj, e1, e2, e3⟩ := h3 k hk
  obtain ⟨ad, rfl, hb, hc⟩ := h1.2 (by omega)
  exact ⟨ad, Aj, cj, rfl, hb, hc k _ e1, e2, e3⟩
end Go.Proofs.YtopkmcoblndokaaDoor
/- Layer 5: the law's own ways to build: with a constructor of the program, and as specified. -/
namespace Go.Proofs.Ws
open Go
end Go.Proofs.Ws
namespace Go.Proofs.YtopkmcoblndokaaDoor
open Go.RowKit Go.Proofs.Ws Go.Maps
set_option maxRecDepth 100000
end Go.Proofs.YtopkmcoblndokaaDoor
/- Layer 5: the masks of the reference. -/
namespace Go.Proofs.YtopkmcoblndokaaDoor
open Go.RowKit Go.Proofs.Ws Go.Maps
set_option maxRecDepth 100000
end Go.Proofs.YtopkmcoblndokaaDoor
/- Layer 5: Fits of the program. -/
namespace Go.Proofs
open Go.Shelf Go.RowKit
shelf_lay Lays.n129 Nm 129 at Tryd as Tryd.lays129
end Go.Proofs
namespace Go.Proofs.Ws
open Go
def belowM (m : Nat) (l : Int) : Bool := decide (m = 0) || decide (((Lib.bitLen m : Nat) : Int) ≤ l)
def fitsF (f : List Nd) (a b : Int) : Bool := decide (fErr f = 0) && (belowM (maskL agentD (compF f)) a && belowM (maskL factD (compF f)) b)
end Go.Proofs.Ws
namespace Go.Proofs.YtopkmcoblndokaaDoor
open Go.RowKit Go.Proofs.Ws Go.Maps
set_option maxRecDepth 100000
theorem len64_any (x : Nat) (w : World) (hx : x < 18446744073709551616) :
    Calls Tryd.prog 84 #[.int .u64 x] w fun e w' => e = .returned (.int .i64 (Lib.bitLen x)) ∧ w = w' := by
  have h := Any.bits_Len64 Tryd.lays129 x w (by omega) (by omega)
  rw [Int.toNat_natCast] at h
  exact h.mono fun e w' ⟨h1, h2⟩ => ⟨h1, h2.symm⟩
theorem len_any (x : Nat) (w : World) (hx : x < 512) :
    Calls Tryd.prog 59 #[.int .u64 x] w fun e w' => e = .returned (.int .i64 (Lib.bitLen x)) ∧ w = w' := by
  have HC := Lib.hid (len64_any x w (by omega))
  generalize Lib.bitLen x = z at *
  go_enter Tryd.func59, Tryd.ntmps59
  go_wp2_with fail
  refine (HC.out).mono ?_
  rintro e w1 ⟨rfl, rfl⟩
  go_wp2
  go_ret
  exact ⟨rfl, rfl⟩
theorem allBelow_any (x : Nat) (l : Int) (w : World) (hx : x < 512) :
    Calls Tryd.prog 42 #[.int .i64 (x : Int), .int .i64 l] w fun e w' => e = .returned (.bool (belowM x l)) ∧ w = w' := by
  by_cases h0 : x = 0
  · have HV : Hid (belowM x l = true) := Lib.hid (by unfold belowM; rw [decide_eq_true h0]; rfl)
    rw [HV.out]
    subst h0
    go_enter Tryd.func42, Tryd.ntmps42
    go_wp2
    go_ret
    exact ⟨rfl, rfl⟩
  · have HC := Lib.hid (len_any x w hx)
    have HV : Hid (belowM x l = decide (((Lib.bitLen x : Nat) : Int) ≤ l)) := Lib.hid (by unfold belowM; rw [decide_eq_false h0]; rfl)
    have hb : ((x : Int) == 0) = false := by simp; omega
    have hw : IntKind.u64.wrap (x : Int) = (x : Int) := by rw [IntKind.wrap_u64]; omega
    rw [HV.out]
    clear HV h0
    generalize Lib.bitLen x = z at *
    generalize hd : decide ((z : Int) ≤ l) = b at *
    go_enter Tryd.func42, Tryd.ntmps42
    go_wp2_with fail
    refine (HC.out).mono ?_
    rintro e w1 ⟨rfl, rfl⟩
    go_wp2
    go_ret
    exact ⟨rfl, rfl⟩
theorem agentM_lt (f : List Nd) : maskL agentD (compF f) < 512 := maskL_lt _ _ (fun x hx => agentD_lt (compF_fld f x hx))
theorem factM_lt (f : List Nd) : maskL factD (compF f) < 512 := maskL_lt _ _ (fun x hx => factD_lt (compF_fld f x hx))
set_option maxRecDepth 100000 in
theorem pFits_any (f : List Nd) (a b : Int) (A : Option Addr) (n c : Nat) (w : World) (hR : Reads w w.heap.size 6 A n (nds f)) (hm : n ≤ maxLen) :
    Calls Tryd.prog 20 #[.slice A n c, .int .i64 a, .int .i64 b] w fun e w' => e = .returned (.bool (fitsF f a b)) ∧ Below w.heap.size w w' := by
  have HV := Lib.hid (pValid_any f A n c w hR hm)
  have HA : Hid (∀ W, Below w.heap.size w W → Calls Tryd.prog 43 #[.slice A n c] W fun e w' => e = .returned (.int .i64 (maskL agentD (compF f) : Int)) ∧ Below W.heap.size W w') := Lib.hid (fun W h => pAgents_any f A n c W ((hR.below h).more h.size) hm)
  have HF : Hid (∀ W, Below w.heap.size w W → Calls Tryd.prog 44 #[.slice A n c] W fun e w' => e = .returned (.int .i64 (maskL factD (compF f) : Int)) ∧ Below W.heap.size W w') := Lib.hid (fun W h => pFacts_any f A n c W ((hR.below h).more h.size) hm)
  have HBA := Lib.hid (fun W => allBelow_any (maskL agentD (compF f)) a W (agentM_lt f))
  have HBF := Lib.hid (fun W => allBelow_any (maskL factD (compF f)) b W (factM_lt f))
  unfold fitsF
  generalize maskL agentD (compF f) = ma at *
  generalize maskL factD (compF f) = mf at *
  have hE : (fErr f == 0) = decide (fErr f = 0) := by cases h : decide (fErr f = 0) <;> simp_all
  rw [hE] at HV
  generalize decide (fErr f = 0) = z at *
  generalize belowM ma a = ba at *
  generalize belowM mf b = bb at *
  clear hR hE
  cases z
  · go_enter Tryd.func20, Tryd.ntmps20
    go_wp2_with fail
    refine (HV.out).mono ?_
    rintro e w1 ⟨rfl, hb1⟩
    have HB1 := Lib.hid hb1
    clear hb1
    go_wp2
    go_ret
    exact ⟨rfl, HB1.out⟩
  · go_enter Tryd.func20, Tryd.ntmps20
    go_wp2_with fail
    refine (HV.out).mono ?_
    rintro e w1 ⟨rfl, hb1⟩
    have HB1 := Lib.hid hb1
    clear hb1
    go_wp2_with fail
    refine (HA.out _ HB1.out).mono ?_
    rintro e w2 ⟨rfl, hb2⟩
    have HB2 := Lib.hid (HB1.out.trans (hb2.mono HB1.out.size))
    clear hb2
    go_wp2_with fail
    refine (HBA.out _).mono ?_
    rintro e w3 ⟨rfl, rfl⟩
    cases ba
    · go_wp2
      go_ret
      exact ⟨rfl, HB2.out⟩
    · go_wp2_with fail
      refine (HF.out _ HB2.out).mono ?_
      rintro e w3 ⟨rfl, hb3⟩
      have HB3 := Lib.hid (HB2.out.trans (hb3.mono HB2.out.size))
      clear hb3
      go_wp2_with fail
      refine (HBF.out _).mono ?_
      rintro e w4 ⟨rfl, rfl⟩
      go_wp2
      go_ret
      exact ⟨by simp, HB3.out⟩
end Go.Proofs.YtopkmcoblndokaaDoor
/- Layer 5: Fits of the reference. -/
namespace Go.Proofs.Ws
open Go
def bitsOk (m : Nat) (l : Int) (k : Nat) : Bool := (List.range k).all (fun i => !decide (m / 2 ^ i % 2 = 1) || decide ((i : Int) < l))
theorem bitsOk_iff (m : Nat) (l : Int) (k : Nat) : bitsOk m l k = true ↔ ∀ i, i < k → m / 2 ^ i % 2 = 1 → (i : Int) < l := by
  unfold bitsOk
  rw [List.all_eq_true]
  constructor
  · intro h i hi hb
    have := h i (List.mem_range.2 hi)
    simp [hb] at this
    exact this
  · intro h i hi
    have := h i (List.mem_range.1 hi)
    by_cases hb : m / 2 ^ i % 2 = 1
    · simp [hb, this hb]
    · simp [hb]
theorem bits_top : ∀ n : Fin 256, n.val ≠ 0 → 0 < Lib.bitLen n.val ∧ n.val / 2 ^ (Lib.bitLen n.val - 1) % 2 = 1 ∧ 2 ^ (Lib.bitLen n.val - 1) ≤ n.val ∧ ∀ i : Fin 8, n.val / 2 ^ i.val % 2 = 1 → i.val < Lib.bitLen n.val := by decide +kernel
theorem belowM_bits (m K : Nat) (l : Int) (hK : K ≤ 8) (hm : m < 2 ^ K) : belowM m l = bitsOk m l K := by
  have h256 : m < 256 := Nat.lt_of_lt_of_le hm (Nat.pow_le_pow_right (n := 2) (by decide) hK)
  rw [Bool.eq_iff_iff, bitsOk_iff]
  unfold belowM
  rw [Bool.or_eq_true, decide_eq_true_eq, decide_eq_true_eq]
  by_cases h0 : m = 0
  · subst h0
    simp
  · obtain ⟨h1, h2, h3, h4⟩ := bits_top ⟨m, h256⟩ h0
    dsimp only at h1 h2 h3 h4
    constructor
    · rintro (h | h) i hi hb
      · exact absurd h h0
      · have := h4 ⟨i, by omega⟩ hb
        dsimp only at this
        omega
    · intro h
      refine .inr ?_
      have hlt : Lib.bitLen m - 1 < K := by
        refine Nat.lt_of_not_le (fun hle => ?_)
        have := Nat.pow_le_pow_right (n := 2) (by decide) hle
        omega
      have := h _ hlt h2
      omega
theorem maskL_le (g : Nd → Nat) (e : Nat) (l : List Nd) (h : ∀ n ∈ l, g n < 2 ^ e) : maskL g l < 2 ^ e := by
  have : ∀ (l : List Nd) (a : Nat), a < 2 ^ e → (∀ n ∈ l, g n < 2 ^ e) → l.foldl (fun m n => m ||| g n) a < 2 ^ e := by
    intro l
    induction l with
    | nil => intro a h _; exact h
    | cons n l ih =>
      intro a h hl
      exact ih _ (Nat.or_lt_two_pow h (hl n (by simp))) (fun m hm => hl m (by simp [hm]))
  exact this l 0 (Nat.two_pow_pos e) h
end Go.Proofs.Ws
namespace Go.Proofs.YtopkmcoblndokaaDoor
open Go.RowKit Go.Proofs.Ws Go.Maps
set_option maxRecDepth 100000
theorem factM_256 (f : List Nd) : maskL factD (compF f) < 2 ^ 8 := maskL_le _ 8 _ (fun n hn => by
  unfold factD
  split
  · rename_i h3
    have := (fld_i (compF_fld f n hn)).1 h3
    exact Nat.pow_lt_pow_right (by decide) (show n.i.toNat < 8 by omega)
  · decide)
end Go.Proofs.YtopkmcoblndokaaDoor
