/- Words and memory: the set of one world and of all, what a slice reads as, the table of trailing zeros, TrailingZeros64. -/
import Derived.Test.YtofclgapgjcflaaDoorProg
import Derived.Test.YtofclgapgjcflaaDoorBm2
import Derived.Test.YtofclgapgjcflaaDoorBm6
import Derived.WalkKit
import Derived.ProofKit
import Derived.BigQuiet
import Derived.Deep.QuietTactic
import Derived.Laws.BitsAll
import Derived.Laws.BitsAllLaws
import Derived.Lib.Hide
import Derived.IntWalk
import Derived.Laws.Bits128
import Derived.Below
import Derived.Laws.OwnMore
import Derived.Deep.AppendLies
import Derived.Deep.Draws
import Derived.OwnWalk
import Derived.LoopTactic
namespace Go.Proofs.YtofclgapgjcflaaDoor
open Go.RowKit Go.Proofs.Ws
theorem ret_bool {a b : Bool} (h : a = b) : Ending.returned (.bool a) = .returned (.bool b) := by rw [h]
theorem ret_u64 {a b : Int} (h : a = b) : Ending.returned (.int .u64 a) = .returned (.int .u64 b) := by rw [h]
theorem ret_i64 {a b : Int} (h : a = b) : Ending.returned (.int .i64 a) = .returned (.int .i64 b) := by rw [h]
/-- the set of one world -/
def p2 (k : Nat) : Nat := 2 ^ k
theorem wrap_pow (n : Nat) (h : n < 64) : IntKind.u64.wrap ((2 : Int) ^ n) = ((p2 n : Nat) : Int) := by
  have h2 : 2 ^ n < 2 ^ 64 := Nat.pow_lt_pow_right (by decide) h
  rw [IntKind.wrap_u64, show ((2 : Int) ^ n) = ((p2 n : Nat) : Int) from by simp [p2]]
  have h3 : p2 n < 18446744073709551616 := h2
  omega
theorem wrap_pow64 : IntKind.u64.wrap ((2 : Int) ^ 64) = 0 := by decide
/-- world n is in the set s -/
def hasB (s : Nat) (n : Int) : Bool := decide (0 ≤ n ∧ n < 64) && s.testBit n.toNat
theorem and_pow (s k : Nat) (hs : s < 18446744073709551616) (hk : k < 64) : (bits .and .u64 (s : Int) (p2 k : Int) != 0) = s.testBit k := by
  have h2 : 2 ^ k < 2 ^ 64 := Nat.pow_lt_pow_right (by decide) hk
  have hp := Nat.two_pow_pos k
  have e : s.testBit k = decide (s / 2 ^ k % 2 = 1) := Nat.testBit_eq_decide_div_mod_eq
  rw [u64_and_nat s (p2 k) hs h2, show s &&& p2 k = s / 2 ^ k % 2 * 2 ^ k from nat_bit k s, e]
  have h3 : s / 2 ^ k % 2 = 0 ∨ s / 2 ^ k % 2 = 1 := by omega
  have e0 : ((2 ^ k : Nat) : Int) ≠ 0 := by omega
  rcases h3 with h3 | h3 <;> rw [h3]
  · simp
  · simp only [Nat.one_mul, decide_true, bne_iff_ne]; exact e0
/-- the worlds 0 to n - 1, for n from 0 to 64; else none -/
def allV (n : Int) : Nat := if 0 ≤ n ∧ n ≤ 64 then 2 ^ n.toNat - 1 else 0
theorem bits_and_nn (a b : Nat) (ha : a < 18446744073709551616) (hb : b < 18446744073709551616) : bits .and .u64 (a : Int) (b : Int) = ((a &&& b : Nat) : Int) := u64_and_nat a b ha hb
theorem wrap_allV (k : Nat) (h : k ≤ 64) : IntKind.u64.wrap (IntKind.u64.wrap ((2 : Int) ^ k) - 1) = (allV k : Int) := by
  have e0 : allV k = 2 ^ k - 1 := by unfold allV; rw [if_pos (by omega)]; rfl
  rw [e0]
  by_cases h1 : k = 64
  · subst h1; decide
  · have h2 := wrap_pow k (by omega)
    have h3 : p2 k < 18446744073709551616 := Nat.pow_lt_pow_right (by decide) (show k < 64 by omega)
    have h4 : 0 < p2 k := Nat.two_pow_pos k
    rw [h2, show 2 ^ k = p2 k from rfl, IntKind.wrap_u64]
    omega
theorem allV_lt (n : Int) : allV n < 18446744073709551616 := by
  unfold allV
  split
  · rename_i h
    have : 2 ^ n.toNat ≤ 2 ^ 64 := Nat.pow_le_pow_right (by decide) (by omega)
    omega
  · omega
theorem allV_succ (k : Nat) (h : k < 64) : bits .or .u64 (allV k : Int) (p2 k : Int) = (allV ((k : Int) + 1) : Int) := by
  have e0 : allV k = 2 ^ k - 1 := by unfold allV; rw [if_pos (by omega)]; rfl
  have e1 : allV ((k : Int) + 1) = 2 ^ (k + 1) - 1 := by unfold allV; rw [if_pos (by omega)]; rfl
  have h3 : p2 k < 18446744073709551616 := Nat.pow_lt_pow_right (by decide) h
  rw [u64_or_nat _ _ (allV_lt _) h3, e0, e1]
  congr 1
  have hp := Nat.two_pow_pos k
  rw [Nat.or_comm, nat_join k (p2 k) (2 ^ k - 1) (by unfold p2; exact Nat.mod_self _) (by omega), Nat.pow_succ]
  unfold p2
  omega
theorem block_of_add (a : Addr) (n : Nat) : (a.add n).block = a.block := by unfold Addr.add; split <;> rfl
theorem add_of_add (a : Addr) (i j : Nat) : (a.add i).add j = a.add (i + j) := by
  unfold Addr.add
  by_cases hi : i = 0 <;> by_cases hj : j = 0 <;> simp [hi, hj, Nat.add_assoc]
def Reads (w : World) (B size : Nat) (A : Option Addr) (n : Nat) (xs : List Value) : Prop :=
  xs.length = n * size ∧ (0 < n → ∃ ad, A = some ad ∧ ad.block < B ∧ ∀ j u, xs[j]? = some u → w.cell? (ad.add j) = some u)
section
variable {w w' : World} {B B' size n : Nat} {A : Option Addr} {xs : List Value}
theorem Reads.none_ : Reads w B size A 0 [] := ⟨by simp, fun h => absurd h (by omega)⟩
theorem Reads.at_ {k : Nat} (h : Reads w B 1 A n xs) (hk : k < n) : ∃ ad u, A = some ad ∧ ad.block < B ∧ xs[k]? = some u ∧ w.cell? (ad.add k) = some u := by
  obtain ⟨ad, e, hb, hc⟩ := h.2 (by omega)
  have hl : k < xs.length := by have := h.1; omega
  exact ⟨ad, xs[k], e, hb, List.getElem?_eq_getElem hl, hc k _ (List.getElem?_eq_getElem hl)⟩
theorem Reads.keep (h : Reads w B size A n xs) (hk : ∀ p : Addr, p.block < B → w'.cell? p = w.cell? p) : Reads w' B size A n xs :=
  ⟨h.1, fun hn => by
    obtain ⟨ad, e, hb, hc⟩ := h.2 hn
    exact ⟨ad, e, hb, fun j u hu => (hk _ (by rw [block_of_add]; exact hb)).trans (hc j u hu)⟩⟩
theorem Reads.more (h : Reads w B size A n xs) (hB : B ≤ B') : Reads w B' size A n xs :=
  ⟨h.1, fun hn => by
    obtain ⟨ad, e, hb, hc⟩ := h.2 hn
    exact ⟨ad, e, by omega, hc⟩⟩
theorem Reads.below (h : Reads w B size A n xs) (hb : Below B w w') : Reads w' B size A n xs := h.keep fun _ hp => hb.cell hp
theorem Reads.drew (h : Reads w B size A n xs) : Reads w.drew B size A n xs := h
theorem Reads.drewN (h : Reads w B size A n xs) (k : Nat) : Reads (w.drewN k) B size A n xs := h
theorem Reads.alloc (h : Reads w B size A n xs) (hB : B ≤ w.heap.size) (o : Obj) : Reads (w.alloc o) B size A n xs := h.keep fun p hp => World.cell?_alloc_lt w o p (by omega)
theorem Reads.setCell (h : Reads w B size A n xs) {p : Addr} (hB : B ≤ p.block) (u : Value) : Reads (w.setCell p u) B size A n xs :=
  h.keep fun q hq => World.cell?_setCell_other w p q u (fun e => by subst e; omega)
theorem Reads.grown (h : Reads w B size A n xs) {row : Option Nat} (hg : w.grownBy w' row) (hB : B ≤ w.heap.size) (hr : ∀ g, row = some g → B ≤ g) : Reads w' B size A n xs :=
  h.keep fun p hp => World.cell?_of_block (hg.block p.block (by omega) (fun e => by have := hr _ e.symm; omega))
theorem Reads.cut (h : Reads w B size A n xs) {k cap : Nat} (hk : k ≤ n) (hc : n ≤ cap) :
    Reads w B size (if cap = k then A else A.map (·.add (k * size))) (n - k) (xs.drop (k * size)) := by
  refine ⟨by rw [List.length_drop, h.1, Nat.sub_mul], fun hn => ?_⟩
  obtain ⟨ad, rfl, hb, hcell⟩ := h.2 (by omega)
  rw [if_neg (by omega)]
  refine ⟨ad.add (k * size), rfl, by rw [block_of_add]; exact hb, fun j u hu => ?_⟩
  rw [add_of_add]
  exact hcell _ u (by rw [← hu, List.getElem?_drop])
theorem Reads.of_own {base : Nat} {e : TypeId} {c : Nat} (h : w.ownsRow base e size (.slice A n c) n xs) : Reads w w.heap.size size A n xs := by
  refine ⟨h.1, fun hn => ?_⟩
  obtain ⟨g, cap, hv, _, hlt⟩ := h.form hn
  have hA : A = some ⟨g, 0, none⟩ := by injection hv
  subst hA
  exact ⟨_, rfl, hlt, h.cells (g := g) rfl⟩
end
/-- the table of trailing zeros lies in its variable (block 0) -/
def iv (l : List Nat) : List Value := l.map (fun k : Nat => Value.int .i64 (k : Int))
theorem iv_length (l : List Nat) : (iv l).length = l.length := by simp [iv]
theorem iv_append (l m : List Nat) : iv (l ++ m) = iv l ++ iv m := by simp [iv]
theorem iv_get (l : List Nat) (j : Nat) (u : Value) (h : (iv l)[j]? = some u) : ∃ k, l[j]? = some k ∧ u = .int .i64 (k : Int) := by
  unfold iv at h
  rw [List.getElem?_map] at h
  cases hl : l[j]? with
  | none => rw [hl] at h; cases h
  | some k => rw [hl] at h; exact ⟨k, rfl, by simpa using h.symm⟩
theorem own_reads {w : World} {base : Nat} {e : TypeId} {v : Value} {n : Nat} {xs : List Value} (h : w.ownsRow base e 1 v n xs) :
    ∃ A c, v = .slice A n c ∧ Reads w w.heap.size 1 A n xs := by
  have h2 := h.2
  rcases h2 with ⟨rfl, rfl⟩ | ⟨g, cap, cur, rfl, _⟩
  · exact ⟨none, 0, rfl, Reads.of_own h⟩
  · exact ⟨_, cap, rfl, Reads.of_own h⟩
theorem andpred (r : Nat) (h0 : r ≠ 0) (hr : r < 18446744073709551616) : bits .and .u64 (r : Int) (IntKind.u64.wrap ((r : Int) - 1)) = ((r &&& (r - 1) : Nat) : Int) := by
  rw [show IntKind.u64.wrap ((r : Int) - 1) = ((r - 1 : Nat) : Int) from by rw [IntKind.wrap_u64]; omega, u64_and_nat r (r - 1) hr (by omega)]
theorem or_pow (a k : Nat) (ha : a < 18446744073709551616) (hk : k < 64) : bits .or .u64 (a : Int) (p2 k : Int) = ((a ||| p2 k : Nat) : Int) ∧ a ||| p2 k < 18446744073709551616 := by
  have h3 : p2 k < 18446744073709551616 := Nat.pow_lt_pow_right (by decide) hk
  exact ⟨u64_or_nat a (p2 k) ha h3, Nat.or_lt_two_pow (n := 64) ha h3⟩
theorem outside_in (s : Nat) (n : Int) (hs : s < 18446744073709551616) (h : 0 ≤ n ∧ n ≤ 64) : (bits .andNot .u64 (s : Int) (allV n : Int) != 0) = !decide (s < 2 ^ n.toNat) := by
  rw [u64_andNot_nat s (allV n) hs (allV_lt n)]
  have e : allV n = 2 ^ n.toNat - 1 := by unfold allV; rw [if_pos h]
  rw [e]
  have := outside s n.toNat (by omega) hs
  by_cases h2 : s < 2 ^ n.toNat
  · rw [this.2 h2, decide_eq_true h2]; rfl
  · have h3 := fun x => h2 (this.1 x)
    rw [decide_eq_false h2, bne_iff_ne.2 (by omega)]; rfl
theorem outside_out (s : Nat) (n : Int) (hs : s < 18446744073709551616) (h : ¬ (0 ≤ n ∧ n ≤ 64)) : (bits .andNot .u64 (s : Int) (allV n : Int) != 0) = !decide (s = 0) := by
  rw [u64_andNot_nat s (allV n) hs (allV_lt n)]
  have e : allV n = 0 := by unfold allV; rw [if_neg h]
  have e2 : s &&& (18446744073709551615 - 0) = s := by
    have := Nat.and_two_pow_sub_one_eq_mod s 64
    rw [show 2 ^ 64 - 1 = 18446744073709551615 - 0 from by omega] at this
    rw [this]; omega
  rw [e, e2]
  by_cases h2 : s = 0
  · rw [decide_eq_true h2, h2]; rfl
  · rw [decide_eq_false h2, bne_iff_ne.2 (by omega)]; rfl
theorem outside_yes (s : Nat) (n : Int) (hs : s < 18446744073709551616) (h0 : s ≠ 0) (h : ¬ (0 ≤ n ∧ n ≤ 64 ∧ s < 2 ^ n.toNat)) : (bits .andNot .u64 (s : Int) (allV n : Int) != 0) = true := by
  by_cases h1 : 0 ≤ n ∧ n ≤ 64
  · rw [outside_in s n hs h1, decide_eq_false (by omega)]; rfl
  · rw [outside_out s n hs h1, decide_eq_false h0]; rfl
theorem p2_bit (w x : Nat) : (p2 w).testBit x = decide (w = x) := by unfold p2; exact Nat.testBit_two_pow
theorem below_drewN {B : Nat} {a w : World} (h : Below B a w) (n : Nat) : Below B a (w.drewN n) := h.trans ⟨rfl, rfl, rfl, Nat.le_refl _, fun _ _ => rfl⟩
end Go.Proofs.YtofclgapgjcflaaDoor
