/- Layer 6: texts joined: Bm Bm2 Bm3 Bm4 Bm6 Aa Da Db Bc Pa. -/
import Derived.Lib.TrailingZeros
import Derived.Test.YtjpmhbnikoggaaaDoorProg
import Derived.WalkKit
import Derived.ProofKit
import Derived.BigQuiet
import Derived.Deep.QuietTactic
import Derived.Laws.BitsAll
import Derived.Laws.BitsAllLaws
import Derived.Lib.Hide
import Derived.IntWalk
import Derived.Laws.Bits128
import Derived.Below
import Derived.Laws.OwnMore
import Derived.Deep.AppendLies
import Derived.Deep.Draws
import Derived.OwnWalk
import Derived.LoopTactic
namespace Go.Proofs.Ws
open Go

/-- The worlds of a set, ascending. -/
def mem (s : Nat) : List Nat := (List.range 64).filter (fun w => s.testBit w)

/-- the lowest world -/
def low (s : Nat) : Nat := Lib.ctz 64 s

theorem low_form (s : Nat) (h0 : s ≠ 0) (h : s < 2 ^ 64) : ∃ m, s = 2 ^ low s * (2 * m + 1) ∧ low s < 64 := by
  unfold low Lib.ctz
  rw [if_neg h0]
  exact Lib.ctzFrom_spec 64 s (by omega) h

theorem testBit_form (k m i : Nat) : (2 ^ k * (2 * m + 1)).testBit i = (decide (k ≤ i) && (decide (i = k) || m.testBit (i - k - 1))) := by
  rw [Nat.mul_comm, Nat.testBit_mul_two_pow]
  by_cases h : k ≤ i
  · simp only [h, decide_true, Bool.true_and]
    by_cases e : i = k
    · subst e; simp [Nat.testBit_zero]
    · obtain ⟨j, rfl⟩ : ∃ j, i = k + (j + 1) := ⟨i - k - 1, by omega⟩
      have e3 : k + (j + 1) - k = j + 1 := by omega
      have e4 : k + (j + 1) - k - 1 = j := by omega
      rw [e3, Nat.testBit_succ]
      have d1 : (2 * m + 1) / 2 = m := by omega
      rw [d1]
      simp
  · simp [h]

theorem pred_form (k m : Nat) : 2 ^ k * (2 * m + 1) - 1 = 2 ^ (k + 1) * m + (2 ^ k - 1) := by
  have hp : 0 < 2 ^ k := Nat.two_pow_pos k
  have e : 2 ^ k * (2 * m + 1) = 2 ^ (k + 1) * m + 2 ^ k := by
    rw [Nat.mul_add, Nat.pow_succ, Nat.mul_one, Nat.mul_assoc]
  omega

theorem testBit_pred (k m i : Nat) : (2 ^ k * (2 * m + 1) - 1).testBit i = (decide (i < k) || (decide (k < i) && m.testBit (i - k - 1))) := by
  rw [pred_form]
  have hlt : 2 ^ k - 1 < 2 ^ (k + 1) := by
    have := Nat.two_pow_pos k
    rw [Nat.pow_succ]; omega
  rw [Nat.testBit_two_pow_mul_add _ hlt]
  by_cases h : i < k + 1
  · rw [if_pos h, Nat.testBit_two_pow_sub_one]
    by_cases h2 : i < k
    · simp [h2]
    · have : ¬ k < i := by omega
      simp [h2, this]
  · rw [if_neg h]
    have h1 : ¬ i < k := by omega
    have h2 : k < i := by omega
    have e : i - (k + 1) = i - k - 1 := by omega
    simp [h1, h2, e]

/-- clearing the lowest world -/
theorem clear_low (s : Nat) (h0 : s ≠ 0) (h : s < 2 ^ 64) (i : Nat) : (s &&& (s - 1)).testBit i = (s.testBit i && !decide (i = low s)) := by
  obtain ⟨m, hm, hk⟩ := low_form s h0 h
  generalize low s = k at hm hk
  subst hm
  rw [Nat.testBit_and, testBit_pred, testBit_form]
  by_cases h1 : i < k
  · have : ¬ k ≤ i := by omega
    simp [this]
  · by_cases h2 : i = k
    · subst h2; simp
    · have h3 : k < i := by omega
      have h4 : k ≤ i := by omega
      simp [h1, h2, h3, h4]

theorem testBit_low (s : Nat) (h0 : s ≠ 0) (h : s < 2 ^ 64) : s.testBit (low s) = true := by
  obtain ⟨m, hm, hk⟩ := low_form s h0 h
  generalize low s = k at hm hk
  subst hm
  rw [testBit_form]; simp

theorem testBit_below (s : Nat) (h0 : s ≠ 0) (h : s < 2 ^ 64) (i : Nat) (hi : i < low s) : s.testBit i = false := by
  obtain ⟨m, hm, hk⟩ := low_form s h0 h
  generalize low s = k at hm hk hi
  subst hm
  rw [testBit_form]
  have : ¬ k ≤ i := by omega
  simp [this]

theorem and_pred_lt (s : Nat) (h0 : s ≠ 0) : s &&& (s - 1) < s := by
  have := Nat.and_le_right (n := s) (m := s - 1)
  omega

theorem filter_least (p q : Nat → Bool) (n k : Nat) (hk : k < n) (hp : p k = true) (hb : ∀ i, i < k → p i = false) (hq : ∀ i, q i = (p i && !decide (i = k))) :
    (List.range n).filter p = k :: (List.range n).filter q := by
  have e : List.range n = List.range k ++ k :: (List.range' (k + 1) (n - k - 1)) := by
    rw [List.range_eq_range', List.range_eq_range']
    have : n = k + (1 + (n - k - 1)) := by omega
    conv => lhs; rw [this]
    rw [← List.range'_append_1, ← List.range'_append_1]
    simp
  have f1 : (List.range k).filter p = [] := by
    rw [List.filter_eq_nil_iff]; intro a ha; rw [hb a (List.mem_range.1 ha)]; simp
  have f2 : (List.range k).filter q = [] := by
    rw [List.filter_eq_nil_iff]; intro a ha; rw [hq, hb a (List.mem_range.1 ha)]; simp
  have f3 : (List.range' (k + 1) (n - k - 1)).filter p = (List.range' (k + 1) (n - k - 1)).filter q := by
    apply List.filter_congr
    intro a ha
    rw [hq]
    have : k + 1 ≤ a := (List.mem_range'_1.1 ha).1
    have : ¬ a = k := by omega
    simp [this]
  rw [e, List.filter_append, List.filter_append, f1, f2, List.filter_cons_of_pos hp, List.filter_cons_of_neg (by rw [hq]; simp), f3]
  simp

theorem mem_step (s : Nat) (h0 : s ≠ 0) (h : s < 2 ^ 64) : mem s = low s :: mem (s &&& (s - 1)) := by
  obtain ⟨m, hm, hk⟩ := low_form s h0 h
  exact filter_least _ _ 64 (low s) hk (testBit_low s h0 h) (testBit_below s h0 h) (clear_low s h0 h)

theorem mem_zero : mem 0 = [] := by
  unfold mem; rw [List.filter_eq_nil_iff]; intro a _; simp

end Go.Proofs.Ws
/- How many bits are set: the arithmetic of the word-parallel count, byte by byte (no program in sight). -/
namespace Go.Proofs.Ws

def cnt : Nat → Nat → Nat
  | 0, _ => 0
  | k + 1, s => s % 2 + cnt k (s / 2)

def M (c : Nat) : Nat → Nat
  | 0 => 0
  | n + 1 => c + 256 * M c n

def g1 (y : Nat) : Nat := (y / 2 &&& 85) + (y &&& 85)
def g2 (y : Nat) : Nat := (y / 4 &&& 51) + (y &&& 51)
def g3 (y : Nat) : Nat := (y / 16 + y) &&& 15
theorem t1 : ∀ y : Fin 256, ∀ c : Fin 2, (y.1 / 2 + 128 * c.1) &&& 85 = y.1 / 2 &&& 85 := by decide +kernel
theorem t2 : ∀ y : Fin 256, ∀ c : Fin 4, (y.1 / 4 + 64 * c.1) &&& 51 = y.1 / 4 &&& 51 := by decide +kernel
theorem b1 : ∀ y : Fin 256, g1 y.1 < 256 := by decide +kernel
theorem b2 : ∀ y : Fin 256, g2 (g1 y.1) % 16 ≤ 4 ∧ g2 (g1 y.1) / 16 ≤ 4 ∧ g2 (g1 y.1) < 256 := by decide +kernel
theorem b3 : ∀ y : Fin 256, g3 (g2 (g1 y.1)) = cnt 8 y.1 ∧ cnt 8 y.1 ≤ 8 := by decide +kernel

end Go.Proofs.Ws
/- The subsets of a set by their numbers; the next set of the same size: the arithmetic (no program in sight). -/
namespace Go.Proofs.Ws

end Go.Proofs.Ws
/- The next set of the same size, by arithmetic, and by the lowest world that can move up (no program in sight). -/
namespace Go.Proofs.Ws

/-- outside of the first n worlds lies nothing exactly if the number is below 2^n -/
theorem outside (s n : Nat) (hn : n ≤ 64) (hs : s < 18446744073709551616) : s &&& (18446744073709551615 - (2 ^ n - 1)) = 0 ↔ s < 2 ^ n := by
  have hmask : ∀ i, (18446744073709551615 - (2 ^ n - 1)).testBit i = (decide (i < 64) && !decide (i < n)) := by
    intro i
    have x : 2 ^ n ≤ 2 ^ 64 := Nat.pow_le_pow_right (by decide) hn
    have y := Nat.two_pow_pos n
    have z := Nat.testBit_two_pow_sub_succ (x := 2 ^ n - 1) (n := 64) (by omega) i
    rw [show 2 ^ 64 - (2 ^ n - 1 + 1) = 18446744073709551615 - (2 ^ n - 1) from by omega, Nat.testBit_two_pow_sub_one] at z
    exact z
  constructor
  · intro h
    apply Nat.lt_of_not_le
    intro hle
    obtain ⟨i, hi, hbit⟩ := Nat.exists_ge_and_testBit_of_ge_two_pow hle
    have h64 : i < 64 := by
      apply Nat.lt_of_not_le
      intro h6
      have := Nat.testBit_lt_two_pow (x := s) (i := i) (Nat.lt_of_lt_of_le hs (Nat.pow_le_pow_right (by decide) h6 : 2 ^ 64 ≤ 2 ^ i))
      rw [this] at hbit
      cases hbit
    have hz : (s &&& (18446744073709551615 - (2 ^ n - 1))).testBit i = false := by rw [h]; simp
    rw [Nat.testBit_and, hmask, hbit] at hz
    have : ¬ (i < n) := by omega
    simp [h64, this] at hz
  · intro h
    apply Nat.eq_of_testBit_eq
    intro i
    rw [Nat.testBit_and, hmask, Nat.zero_testBit]
    by_cases hi : i < n
    · simp [hi]
    · rw [Nat.testBit_lt_two_pow (Nat.lt_of_lt_of_le h (Nat.pow_le_pow_right (by decide) (by omega)))]
      simp
end Go.Proofs.Ws
/- The subsets ascend, lie in the set, and end with it (no program in sight). -/
namespace Go.Proofs.Ws

/-- a list of worlds that ascends from b on -/
def Asc : Nat → List Nat → Prop
  | _, [] => True
  | b, w :: l => b ≤ w ∧ Asc (w + 1) l

theorem Asc.mono {b c : Nat} : ∀ {l : List Nat}, Asc c l → b ≤ c → Asc b l
  | [], _, _ => trivial
  | _ :: _, h, hb => ⟨Nat.le_trans hb h.1, h.2⟩

theorem mem_iff (s : Nat) (x : Nat) : x ∈ mem s ↔ x < 64 ∧ s.testBit x = true := by
  unfold mem
  rw [List.mem_filter, List.mem_range]

theorem bit_ge (s x : Nat) (hs : s < 18446744073709551616) (hx : 64 ≤ x) : s.testBit x = false :=
  Nat.testBit_lt_two_pow (Nat.lt_of_lt_of_le hs (Nat.pow_le_pow_right (by decide) hx : 2 ^ 64 ≤ 2 ^ x))

end Go.Proofs.Ws
/- Words and memory: the set of one world and of all, what a slice reads as, the table of trailing zeros, TrailingZeros64. -/
namespace Go.Proofs.YtjpmhbnikoggaaaDoor
open Go.RowKit Go.Proofs.Ws
theorem ret_bool {a b : Bool} (h : a = b) : Ending.returned (.bool a) = .returned (.bool b) := by rw [h]
theorem ret_u64 {a b : Int} (h : a = b) : Ending.returned (.int .u64 a) = .returned (.int .u64 b) := by rw [h]
theorem ret_i64 {a b : Int} (h : a = b) : Ending.returned (.int .i64 a) = .returned (.int .i64 b) := by rw [h]
/-- the set of one world -/
def p2 (k : Nat) : Nat := 2 ^ k
theorem wrap_pow (n : Nat) (h : n < 64) : IntKind.u64.wrap ((2 : Int) ^ n) = ((p2 n : Nat) : Int) := by
  have h2 : 2 ^ n < 2 ^ 64 := Nat.pow_lt_pow_right (by decide) h
  rw [IntKind.wrap_u64, show ((2 : Int) ^ n) = ((p2 n : Nat) : Int) from by simp [p2]]
  have h3 : p2 n < 18446744073709551616 := h2
  omega
theorem and_pow (s k : Nat) (hs : s < 18446744073709551616) (hk : k < 64) : (bits .and .u64 (s : Int) (p2 k : Int) != 0) = s.testBit k := by
  have h2 : 2 ^ k < 2 ^ 64 := Nat.pow_lt_pow_right (by decide) hk
  have hp := Nat.two_pow_pos k
  have e : s.testBit k = decide (s / 2 ^ k % 2 = 1) := Nat.testBit_eq_decide_div_mod_eq
  rw [u64_and_nat s (p2 k) hs h2, show s &&& p2 k = s / 2 ^ k % 2 * 2 ^ k from nat_bit k s, e]
  have h3 : s / 2 ^ k % 2 = 0 ∨ s / 2 ^ k % 2 = 1 := by omega
  have e0 : ((2 ^ k : Nat) : Int) ≠ 0 := by omega
  rcases h3 with h3 | h3 <;> rw [h3]
  · simp
  · simp only [Nat.one_mul, decide_true, bne_iff_ne]; exact e0
/-- the worlds 0 to n - 1, for n from 0 to 64; else none -/
def allV (n : Int) : Nat := if 0 ≤ n ∧ n ≤ 64 then 2 ^ n.toNat - 1 else 0
theorem wrap_allV (k : Nat) (h : k ≤ 64) : IntKind.u64.wrap (IntKind.u64.wrap ((2 : Int) ^ k) - 1) = (allV k : Int) := by
  have e0 : allV k = 2 ^ k - 1 := by unfold allV; rw [if_pos (by omega)]; rfl
  rw [e0]
  by_cases h1 : k = 64
  · subst h1; decide
  · have h2 := wrap_pow k (by omega)
    have h3 : p2 k < 18446744073709551616 := Nat.pow_lt_pow_right (by decide) (show k < 64 by omega)
    have h4 : 0 < p2 k := Nat.two_pow_pos k
    rw [h2, show 2 ^ k = p2 k from rfl, IntKind.wrap_u64]
    omega
theorem allV_lt (n : Int) : allV n < 18446744073709551616 := by
  unfold allV
  split
  · rename_i h
    have : 2 ^ n.toNat ≤ 2 ^ 64 := Nat.pow_le_pow_right (by decide) (by omega)
    omega
  · omega
theorem block_of_add (a : Addr) (n : Nat) : (a.add n).block = a.block := by unfold Addr.add; split <;> rfl
theorem add_of_add (a : Addr) (i j : Nat) : (a.add i).add j = a.add (i + j) := by
  unfold Addr.add
  by_cases hi : i = 0 <;> by_cases hj : j = 0 <;> simp [hi, hj, Nat.add_assoc]
def Reads (w : World) (B size : Nat) (A : Option Addr) (n : Nat) (xs : List Value) : Prop :=
  xs.length = n * size ∧ (0 < n → ∃ ad, A = some ad ∧ ad.block < B ∧ ∀ j u, xs[j]? = some u → w.cell? (ad.add j) = some u)
section
variable {w w' : World} {B B' size n : Nat} {A : Option Addr} {xs : List Value}
theorem Reads.none_ : Reads w B size A 0 [] := ⟨by simp, fun h => absurd h (by omega)⟩
theorem Reads.at_ {k : Nat} (h : Reads w B 1 A n xs) (hk : k < n) : ∃ ad u, A = some ad ∧ ad.block < B ∧ xs[k]? = some u ∧ w.cell? (ad.add k) = some u := by
  obtain ⟨ad, e, hb, hc⟩ := h.2 (by omega)
  have hl : k < xs.length := by have := h.1; omega
  exact ⟨ad, xs[k], e, hb, List.getElem?_eq_getElem hl, hc k _ (List.getElem?_eq_getElem hl)⟩
theorem Reads.keep (h : Reads w B size A n xs) (hk : ∀ p : Addr, p.block < B → w'.cell? p = w.cell? p) : Reads w' B size A n xs :=
  ⟨h.1, fun hn => by
    obtain ⟨ad, e, hb, hc⟩ := h.2 hn
    exact ⟨ad, e, hb, fun j u hu => (hk _ (by rw [block_of_add]; exact hb)).trans (hc j u hu)⟩⟩
theorem Reads.more (h : Reads w B size A n xs) (hB : B ≤ B') : Reads w B' size A n xs :=
  ⟨h.1, fun hn => by
    obtain ⟨ad, e, hb, hc⟩ := h.2 hn
    exact ⟨ad, e, by omega, hc⟩⟩
theorem Reads.below (h : Reads w B size A n xs) (hb : Below B w w') : Reads w' B size A n xs := h.keep fun _ hp => hb.cell hp
theorem Reads.drew (h : Reads w B size A n xs) : Reads w.drew B size A n xs := h
theorem Reads.drewN (h : Reads w B size A n xs) (k : Nat) : Reads (w.drewN k) B size A n xs := h
theorem Reads.alloc (h : Reads w B size A n xs) (hB : B ≤ w.heap.size) (o : Obj) : Reads (w.alloc o) B size A n xs := h.keep fun p hp => World.cell?_alloc_lt w o p (by omega)
theorem Reads.setCell (h : Reads w B size A n xs) {p : Addr} (hB : B ≤ p.block) (u : Value) : Reads (w.setCell p u) B size A n xs :=
  h.keep fun q hq => World.cell?_setCell_other w p q u (fun e => by subst e; omega)
theorem Reads.grown (h : Reads w B size A n xs) {row : Option Nat} (hg : w.grownBy w' row) (hB : B ≤ w.heap.size) (hr : ∀ g, row = some g → B ≤ g) : Reads w' B size A n xs :=
  h.keep fun p hp => World.cell?_of_block (hg.block p.block (by omega) (fun e => by have := hr _ e.symm; omega))
theorem Reads.of_own {base : Nat} {e : TypeId} {c : Nat} (h : w.ownsRow base e size (.slice A n c) n xs) : Reads w w.heap.size size A n xs := by
  refine ⟨h.1, fun hn => ?_⟩
  obtain ⟨g, cap, hv, _, hlt⟩ := h.form hn
  have hA : A = some ⟨g, 0, none⟩ := by injection hv
  subst hA
  exact ⟨_, rfl, hlt, h.cells (g := g) rfl⟩
end
/-- the table of trailing zeros lies in its variable (block 0) -/
def Tab (w : World) : Prop := (∀ j, j < 64 → w.cell? ⟨0, j, none⟩ = some (.int .u8 (Lib.deBruijn64tab.getD j 0))) ∧ 0 < w.heap.size
theorem Tab.below {w w' : World} (h : Tab w) (hb : Below w.heap.size w w') : Tab w' :=
  ⟨fun j hj => (hb.cell (p := ⟨0, j, none⟩) h.2).trans (h.1 j hj), Nat.lt_of_lt_of_le h.2 hb.size⟩
/-- the same, from a higher bound -/
theorem Tab.belowAt {B : Nat} {w w' : World} (h : Tab w) (hb : Below B w w') (hB : 0 < B) : Tab w' :=
  ⟨fun j hj => (hb.cell (p := ⟨0, j, none⟩) hB).trans (h.1 j hj), Nat.lt_of_lt_of_le h.2 hb.size⟩
theorem tz_core (x k idx : Nat) (w : World) (hx0 : ((x : Int) == 0) = false)
    (key : IntKind.u64.wrap (bits BinOp.and IntKind.u64 (x : Int) (IntKind.u64.wrap (-(x : Int))) * 285870213051353865) / 288230376151711744 = (idx : Int))
    (hi : idx < 64) (hk : k < 64) (hcell : w.cell? ⟨0, idx, none⟩ = some (.int .u8 k)) :
    Calls Tryd.prog 42 #[.int .u64 x] w fun e w' => e = .returned (.int .i64 k) ∧ w = w' := by
  go_enter Tryd.func42, Tryd.ntmps42
  go_wp2_with (simp only [key])
  go_ret
  exact ⟨rfl, rfl⟩
theorem tz_key (x a : Nat) (hx : x < 18446744073709551616) (hx0 : x ≠ 0) (hlow : x &&& (18446744073709551616 - x) = a) :
    IntKind.u64.wrap (bits BinOp.and IntKind.u64 (x : Int) (IntKind.u64.wrap (-(x : Int))) * 285870213051353865) / 288230376151711744 = ((a * 285870213051353865 % 18446744073709551616 / 288230376151711744 : Nat) : Int) := by
  have e1 : IntKind.u64.wrap (-(x : Int)) = ((18446744073709551616 - x : Nat) : Int) := by rw [IntKind.wrap_u64]; omega
  rw [e1, u64_and_nat x _ hx (by omega), hlow, IntKind.wrap_u64]
  omega
theorem tz_any (x : Nat) (w : World) (hx : x < 18446744073709551616) (hx0 : x ≠ 0) (hT : Tab w) :
    Calls Tryd.prog 42 #[.int .u64 x] w fun e w' => e = .returned (.int .i64 (low x : Int)) ∧ w = w' := by
  obtain ⟨hlow, hk⟩ := Lib.lowest_bit 64 x hx0 hx
  obtain ⟨hi, htab⟩ := Lib.deBruijn64_at _ hk
  have hc := hT.1 _ hi
  rw [htab] at hc
  exact tz_core x _ _ w (by simp; omega) (tz_key x _ hx hx0 hlow) hi hk hc
theorem andpred (r : Nat) (h0 : r ≠ 0) (hr : r < 18446744073709551616) : bits .and .u64 (r : Int) (IntKind.u64.wrap ((r : Int) - 1)) = ((r &&& (r - 1) : Nat) : Int) := by
  rw [show IntKind.u64.wrap ((r : Int) - 1) = ((r - 1 : Nat) : Int) from by rw [IntKind.wrap_u64]; omega, u64_and_nat r (r - 1) hr (by omega)]
theorem or_pow (a k : Nat) (ha : a < 18446744073709551616) (hk : k < 64) : bits .or .u64 (a : Int) (p2 k : Int) = ((a ||| p2 k : Nat) : Int) ∧ a ||| p2 k < 18446744073709551616 := by
  have h3 : p2 k < 18446744073709551616 := Nat.pow_lt_pow_right (by decide) hk
  exact ⟨u64_or_nat a (p2 k) ha h3, Nat.or_lt_two_pow (n := 64) ha h3⟩
theorem outside_in (s : Nat) (n : Int) (hs : s < 18446744073709551616) (h : 0 ≤ n ∧ n ≤ 64) : (bits .andNot .u64 (s : Int) (allV n : Int) != 0) = !decide (s < 2 ^ n.toNat) := by
  rw [u64_andNot_nat s (allV n) hs (allV_lt n)]
  have e : allV n = 2 ^ n.toNat - 1 := by unfold allV; rw [if_pos h]
  rw [e]
  have := outside s n.toNat (by omega) hs
  by_cases h2 : s < 2 ^ n.toNat
  · rw [this.2 h2, decide_eq_true h2]; rfl
  · have h3 := fun x => h2 (this.1 x)
    rw [decide_eq_false h2, bne_iff_ne.2 (by omega)]; rfl
theorem p2_bit (w x : Nat) : (p2 w).testBit x = decide (w = x) := by unfold p2; exact Nat.testBit_two_pow
theorem below_drewN {B : Nat} {a w : World} (h : Below B a w) (n : Nat) : Below B a (w.drewN n) := h.trans ⟨rfl, rfl, rfl, Nat.le_refl _, fun _ _ => rfl⟩
end Go.Proofs.YtjpmhbnikoggaaaDoor
/- Layer 13: models: their check, facts, parts, names, and what is reached from a set. -/
namespace Go.Proofs.Ws
/-- a model -/
structure Mo where
  n : Int
  val : List Nat
  rel : List (List Nat)
  deriving DecidableEq
/-- all sets lie below n -/
def inW (n : Nat) (l : List Nat) : Bool := l.all fun x => decide (x < 2 ^ n)
/-- the error of a model -/
def chkM (m : Mo) : Int :=
  if m.n < 1 ∨ 64 < m.n then 2
  else if 4 < m.rel.length ∨ 8 < m.val.length then 8
  else if m.rel.all (fun r => decide ((r.length : Int) = m.n)) then
    (if inW m.n.toNat m.val && m.rel.all (inW m.n.toNat) then 0 else 2)
  else 3
/-- a valid model -/
structure OkM (n : Nat) (m : Mo) : Prop where
  num : m.n = n
  pos : 1 ≤ n
  le : n ≤ 64
  agents : m.rel.length ≤ 4
  facts : m.val.length ≤ 8
  len : ∀ r ∈ m.rel, r.length = n
  val : ∀ x ∈ m.val, x < 2 ^ n
  rel : ∀ r ∈ m.rel, ∀ x ∈ r, x < 2 ^ n
theorem chkM_ok {m : Mo} (h : chkM m = 0) : OkM m.n.toNat m := by
  unfold chkM at h
  split at h
  · cases h
  · rename_i h1
    split at h
    · cases h
    · rename_i h2
      split at h
      · rename_i h3
        split at h
        · rename_i h4
          rw [Bool.and_eq_true] at h4
          simp only [List.all_eq_true, decide_eq_true_eq] at h3
          unfold inW at h4
          simp only [List.all_eq_true, decide_eq_true_eq] at h4
          exact ⟨by omega, by omega, by omega, by omega, by omega, fun r hr => by have := h3 r hr; omega, h4.1, fun r hr => h4.2 r hr⟩
        · cases h
      · cases h
theorem OkM.chk {n : Nat} {m : Mo} (h : OkM n m) : chkM m = 0 := by
  have e : m.n.toNat = n := by rw [h.num]; rfl
  unfold chkM
  rw [if_neg (by have := h.num; have := h.pos; have := h.le; omega), if_neg (by have := h.agents; have := h.facts; omega)]
  rw [if_pos (by simp only [List.all_eq_true, decide_eq_true_eq]; intro r hr; rw [h.len r hr, h.num])]
  rw [if_pos (by
    rw [e, Bool.and_eq_true]
    unfold inW
    simp only [List.all_eq_true, decide_eq_true_eq]
    exact ⟨h.val, h.rel⟩)]
/-- the number whose bit i is p i, for i < k -/
def bitsN (p : Nat → Bool) : Nat → Nat
  | 0 => 0
  | k + 1 => bitsN p k + if p k then 2 ^ k else 0
theorem bitsN_lt (p : Nat → Bool) : ∀ k, bitsN p k < 2 ^ k
  | 0 => by simp [bitsN]
  | k + 1 => by
    have := bitsN_lt p k
    unfold bitsN
    rw [Nat.pow_succ]
    split <;> omega
theorem bitsN_bit (p : Nat → Bool) : ∀ k i, (bitsN p k).testBit i = (decide (i < k) && p i)
  | 0, i => by simp [bitsN]
  | k + 1, i => by
    have ih := bitsN_bit p k i
    have hl := bitsN_lt p k
    unfold bitsN
    by_cases hp : p k = true
    · rw [if_pos hp, Nat.add_comm]
      rcases Nat.lt_trichotomy i k with h | h | h
      · rw [Nat.testBit_two_pow_add_gt h, ih, decide_eq_true h, decide_eq_true (by omega)]
      · subst h
        rw [Nat.testBit_two_pow_add_eq, ih, hp]
        simp
      · rw [Nat.testBit_lt_two_pow (show 2 ^ k + bitsN p k < 2 ^ i from Nat.lt_of_lt_of_le (show _ < 2 ^ (k + 1) by rw [Nat.pow_succ]; omega) (Nat.pow_le_pow_right (by decide) (by omega)))]
        rw [decide_eq_false (by omega)]; rfl
    · rw [if_neg hp, Nat.add_zero, ih]
      rcases Nat.lt_trichotomy i k with h | h | h
      · rw [decide_eq_true h, decide_eq_true (by omega)]
      · subst h
        have : p i = false := by simpa using hp
        rw [this]; simp
      · rw [decide_eq_false (by omega), decide_eq_false (by omega)]
/-- subsets -/
def SubS (a b : Nat) : Prop := ∀ i, a.testBit i = true → b.testBit i = true
theorem SubS.refl (a : Nat) : SubS a a := fun _ h => h
theorem SubS.trans {a b c : Nat} (h : SubS a b) (k : SubS b c) : SubS a c := fun i hi => k i (h i hi)
theorem SubS.antisymm {a b : Nat} (h : SubS a b) (k : SubS b a) : a = b := by
  apply Nat.eq_of_testBit_eq
  intro i
  rw [Bool.eq_iff_iff]
  exact ⟨h i, k i⟩
theorem SubS.or_left (a b : Nat) : SubS a (a ||| b) := fun i h => by rw [Nat.testBit_or, h]; rfl
theorem SubS.or_right (a b : Nat) : SubS b (a ||| b) := fun i h => by rw [Nat.testBit_or, h, Bool.or_true]
theorem SubS.or {a b c : Nat} (h : SubS a c) (k : SubS b c) : SubS (a ||| b) c := fun i hi => by
  rw [Nat.testBit_or, Bool.or_eq_true] at hi
  rcases hi with hi | hi
  · exact h i hi
  · exact k i hi
theorem SubS.zero (a : Nat) : SubS 0 a := fun i h => by rw [Nat.zero_testBit] at h; cases h
theorem lt_of_sub {a n : Nat} (h : ∀ i, a.testBit i = true → i < n) : a < 2 ^ n := by
  apply Nat.lt_pow_two_of_testBit
  intro i hi
  cases e : a.testBit i
  · rfl
  · exact absurd (h i e) (by omega)
theorem bit_lt {a n i : Nat} (h : a < 2 ^ n) (hi : a.testBit i = true) : i < n := by
  rcases Nat.lt_or_ge i n with h' | h'
  · exact h'
  · rw [Nat.testBit_lt_two_pow (Nat.lt_of_lt_of_le h (Nat.pow_le_pow_right (by decide) h'))] at hi
    cases hi
theorem SubS.lt {a b n : Nat} (h : SubS a b) (hb : b < 2 ^ n) : a < 2 ^ n := lt_of_sub fun i hi => bit_lt hb (h i hi)
/-- no successor leads out of a set -/
def ClosedM (rel : List (List Nat)) (s : Nat) : Prop := ∀ r ∈ rel, ∀ w, s.testBit w = true → SubS (r.getD w 0) s
/-- the set that is reached -/
structure GenM (rel : List (List Nat)) (f g : Nat) : Prop where
  sub : SubS f g
  closed : ClosedM rel g
  least : ∀ t, SubS f t → ClosedM rel t → SubS g t
theorem GenM.unique {rel : List (List Nat)} {f g h : Nat} (a : GenM rel f g) (b : GenM rel f h) : g = h :=
  SubS.antisymm (a.least _ b.sub b.closed) (b.least _ a.sub a.closed)
/-- the successors of a world for the first k agents -/
def orW (rel : List (List Nat)) (w : Nat) : Nat → Nat
  | 0 => 0
  | k + 1 => orW rel w k ||| (rel.getD k []).getD w 0
theorem orW_sub {rel : List (List Nat)} {w t : Nat} (h : ∀ r ∈ rel, SubS (r.getD w 0) t) : ∀ k, k ≤ rel.length → SubS (orW rel w k) t
  | 0, _ => SubS.zero _
  | k + 1, hk => (orW_sub h k (by omega)).or (h _ (by rw [List.getD_eq_getElem?_getD, List.getElem?_eq_getElem (by omega)]; exact List.getElem_mem _))
theorem orW_mono {rel : List (List Nat)} {w : Nat} : ∀ {k j : Nat}, j ≤ k → SubS (orW rel w j) (orW rel w k)
  | 0, j, h => by rw [Nat.le_zero.1 h]; exact SubS.refl _
  | k + 1, j, h => by
    by_cases e : j = k + 1
    · rw [e]; exact SubS.refl _
    · exact (orW_mono (k := k) (by omega)).trans (SubS.or_left _ _)
theorem orW_of {rel : List (List Nat)} {w : Nat} {r : List Nat} (hr : r ∈ rel) : SubS (r.getD w 0) (orW rel w rel.length) := by
  obtain ⟨k, hk, rfl⟩ := List.getElem_of_mem hr
  have h1 : SubS (rel[k].getD w 0) (orW rel w (k + 1)) := by
    have e : rel.getD k [] = rel[k] := by simp [hk]
    rw [orW, e]
    exact SubS.or_right _ _
  exact h1.trans (orW_mono (by omega))
theorem orW_lt {rel : List (List Nat)} {w n : Nat} (h : ∀ r ∈ rel, ∀ x ∈ r, x < 2 ^ n) : ∀ k, k ≤ rel.length → orW rel w k < 2 ^ n
  | 0, _ => Nat.two_pow_pos n
  | k + 1, hk => by
    refine Nat.or_lt_two_pow (orW_lt h k (by omega)) ?_
    have e : rel.getD k [] = rel[k] := by simp [show k < rel.length by omega]
    rw [e]
    by_cases hw : w < rel[k].length
    · rw [List.getD_eq_getElem?_getD, List.getElem?_eq_getElem hw]
      exact h _ (List.getElem_mem _) _ (List.getElem_mem hw)
    · rw [List.getD_eq_getElem?_getD, List.getElem?_eq_none (by omega)]
      exact Nat.two_pow_pos n
/-- the state of the program's walk -/
structure GenS (rel : List (List Nat)) (n f o r : Nat) : Prop where
  sub : SubS f r
  opn : SubS o r
  lt : r < 2 ^ n
  done : ∀ x, r.testBit x = true → o.testBit x = false → ∀ q ∈ rel, SubS (q.getD x 0) r
  least : ∀ t, SubS f t → ClosedM rel t → SubS r t
theorem GenS.start {rel : List (List Nat)} {n f : Nat} (hf : f < 2 ^ n) : GenS rel n f f f :=
  ⟨SubS.refl _, SubS.refl _, hf, fun x h1 h2 => absurd (h1.symm.trans h2) (by decide), fun _ h _ => h⟩
theorem GenS.fin {rel : List (List Nat)} {n f r : Nat} (h : GenS rel n f 0 r) : GenM rel f r :=
  ⟨h.sub, fun q hq x hx => h.done x hx (Nat.zero_testBit x) q hq, h.least⟩
/-- a without b -/
def sdiff (a b : Nat) : Nat := a ^^^ (a &&& b)
theorem sdiff_bit (a b i : Nat) : (sdiff a b).testBit i = (a.testBit i && !b.testBit i) := by
  unfold sdiff
  rw [Nat.testBit_xor, Nat.testBit_and]
  cases a.testBit i <;> cases b.testBit i <;> rfl
/-- the sets behind k agents -/
def opnK (rel : List (List Nat)) (w o r : Nat) (k : Nat) : Nat := o ||| sdiff (orW rel w k) r
def rchK (rel : List (List Nat)) (w r : Nat) (k : Nat) : Nat := r ||| orW rel w k
theorem GenS.next {rel : List (List Nat)} {n f o r : Nat} (h : GenS rel n f o r) (hn : n ≤ 64) (ho : o ≠ 0) (hr : ∀ q ∈ rel, ∀ x ∈ q, x < 2 ^ n) :
    GenS rel n f (opnK rel (low o) (o &&& (o - 1)) r rel.length) (rchK rel (low o) r rel.length) := by
  have ho64 : o < 2 ^ 64 := SubS.lt h.opn (Nat.lt_of_lt_of_le h.lt (Nat.pow_le_pow_right (by decide) hn))
  have hb := testBit_low o ho ho64
  have hc := clear_low o ho ho64
  refine ⟨h.sub.trans (SubS.or_left _ _), ?_, Nat.or_lt_two_pow h.lt (orW_lt hr _ (Nat.le_refl _)), ?_, ?_⟩
  · intro i hi
    unfold opnK at hi
    unfold rchK
    rw [Nat.testBit_or, hc, sdiff_bit] at hi
    rw [Nat.testBit_or]
    have := h.opn i
    revert hi this
    cases o.testBit i <;> cases r.testBit i <;> cases (orW rel (low o) rel.length).testBit i <;> simp
  · intro x hx hox q hq
    unfold opnK at hox
    unfold rchK at hx ⊢
    rw [Nat.testBit_or, hc, sdiff_bit] at hox
    rw [Nat.testBit_or] at hx
    by_cases e : x = low o
    · subst e
      exact (orW_of hq).trans (SubS.or_right _ _)
    · rw [decide_eq_false e] at hox
      have hrx : r.testBit x = true := by
        revert hox hx
        cases o.testBit x <;> cases r.testBit x <;> cases (orW rel (low o) rel.length).testBit x <;> simp
      have hxo : o.testBit x = false := by
        revert hox
        cases o.testBit x <;> simp
      exact (h.done x hrx hxo q hq).trans (SubS.or_left _ _)
  · intro t ht hct
    have h1 := h.least t ht hct
    exact h1.or (orW_sub (fun q hq => hct q hq _ (h1 _ (h.opn _ hb))) _ (Nat.le_refl _))
end Go.Proofs.Ws
/- Layer 13: other numbers, unions and groups. -/
namespace Go.Proofs.Ws
theorem pigeon : ∀ (n : Nat) (f : Nat → Nat), (∀ i, i < n → f i < n) → (∀ i j, i < n → j < n → f i = f j → i = j) → ∀ j, j < n → ∃ i, i < n ∧ f i = j
  | 0, _, _, _, j, hj => absurd hj (by omega)
  | n + 1, f, hf, hi, j, hj => by
    have hg1 : ∀ i, i < n → (if f i = n then f n else f i) < n := fun i h => by
      have h1 := hf i (by omega)
      have h2 := hf n (by omega)
      split
      · rename_i e
        rcases Nat.lt_or_ge (f n) n with h' | h'
        · exact h'
        · have := hi i n (by omega) (by omega) (by omega); omega
      · omega
    have hg2 : ∀ i k, i < n → k < n → (if f i = n then f n else f i) = (if f k = n then f n else f k) → i = k := fun i k h1 h2 h => by
      split at h <;> split at h
      · exact hi i k (by omega) (by omega) (by omega)
      · have := hi n k (by omega) (by omega) h; omega
      · have := hi i n (by omega) (by omega) h; omega
      · exact hi i k (by omega) (by omega) h
    have ih := pigeon n (fun i => if f i = n then f n else f i) hg1 hg2
    by_cases h1 : j = f n
    · exact ⟨n, by omega, h1.symm⟩
    · by_cases h2 : j = n
      · have h3 := hf n (by omega)
        obtain ⟨i, hin, he⟩ := ih (f n) (by omega)
        split at he
        · rename_i e; exact ⟨i, by omega, by omega⟩
        · have := hi i n (by omega) (by omega) he; omega
      · obtain ⟨i, hin, he⟩ := ih j (by omega)
        split at he
        · omega
        · exact ⟨i, by omega, he⟩
/-- a list of the numbers below n, each once -/
structure PermL (n : Nat) (to : List Int) : Prop where
  len : to.length = n
  rng : ∀ i, i < n → 0 ≤ to.getD i 0 ∧ to.getD i 0 < n
  inj : ∀ i j, i < n → j < n → to.getD i 0 = to.getD j 0 → i = j
/-- the inverse of a list -/
structure IsInv (n : Nat) (to : List Int) (l : List Nat) : Prop where
  len : l.length = n
  at_ : ∀ i, i < n → l.getD i 0 < n ∧ to.getD (l.getD i 0) 0 = (i : Int)
theorem PermL.sur {n : Nat} {to : List Int} (h : PermL n to) {j : Nat} (hj : j < n) : ∃ i, i < n ∧ to.getD i 0 = (j : Int) := by
  obtain ⟨i, h1, h2⟩ := pigeon n (fun i => (to.getD i 0).toNat) (fun i hi => by have := h.rng i hi; omega)
    (fun i k hi hk e => h.inj i k hi hk (by have := h.rng i hi; have := h.rng k hk; omega)) j hj
  exact ⟨i, h1, by have := h.rng i h1; omega⟩
theorem IsInv.perm {n : Nat} {to : List Int} {l : List Nat} (a : IsInv n to l) (hl : to.length = n) : PermL n to := by
  have key : ∀ w, w < n → ∃ i, i < n ∧ l.getD i 0 = w := pigeon n (fun i => l.getD i 0) (fun i hi => (a.at_ i hi).1) (fun i k hi hk e => by
    have h1 := (a.at_ i hi).2
    have h2 := (a.at_ k hk).2
    rw [e] at h1
    omega)
  refine ⟨hl, fun w hw => ?_, fun w v hw hv e => ?_⟩
  · obtain ⟨i, hi, rfl⟩ := key w hw
    have := (a.at_ i hi).2
    omega
  · obtain ⟨i, hi, rfl⟩ := key w hw
    obtain ⟨k, hk, rfl⟩ := key v hv
    have h1 := (a.at_ i hi).2
    have h2 := (a.at_ k hk).2
    have : i = k := by omega
    rw [this]
theorem IsInv.unique {n : Nat} {to : List Int} {l k : List Nat} (h : PermL n to) (a : IsInv n to l) (b : IsInv n to k) : l = k := by
  apply List.ext_getElem (a.len.trans b.len.symm)
  intro i h1 h2
  have hi : i < n := by have := a.len; omega
  have e1 := a.at_ i hi
  have e2 := b.at_ i hi
  have := h.inj _ _ e1.1 e2.1 (by rw [e1.2, e2.2])
  simpa [h1, h2] using this
def invL (n : Nat) (to : List Int) : List Nat := (List.range n).map (fun i : Nat => to.findIdx (fun x : Int => decide (x = (i : Int))))
theorem invL_len (n : Nat) (to : List Int) : (invL n to).length = n := by simp [invL]
theorem invL_at (n : Nat) (to : List Int) {i : Nat} (h : i < n) : (invL n to).getD i 0 = to.findIdx (fun x => decide (x = (i : Int))) := by simp [invL, h]
theorem PermL.inv {n : Nat} {to : List Int} (h : PermL n to) : IsInv n to (invL n to) := by
  refine ⟨invL_len n to, fun i hi => ?_⟩
  obtain ⟨w, hw, e⟩ := h.sur hi
  rw [invL_at n to hi]
  have hl := h.len
  have hex : to.findIdx (fun x => decide (x = (i : Int))) < to.length := by
    rw [List.findIdx_lt_length]
    refine ⟨to.getD w 0, ?_, by simpa using e⟩
    rw [List.getD_eq_getElem?_getD, List.getElem?_eq_getElem (by omega)]
    exact List.getElem_mem _
  refine ⟨by omega, ?_⟩
  have := List.findIdx_getElem (w := hex)
  rw [List.getD_eq_getElem?_getD, List.getElem?_eq_getElem hex]
  simpa using this
/-- the program's walk through a list: the first k numbers are fine -/
structure PreP (n : Nat) (to : List Int) (k : Nat) : Prop where
  rng : ∀ i, i < k → 0 ≤ to.getD i 0 ∧ to.getD i 0 < n
  inj : ∀ i j, i < k → j < k → to.getD i 0 = to.getD j 0 → i = j
def seenK (to : List Int) : Nat → Nat
  | 0 => 0
  | k + 1 => seenK to k ||| 2 ^ (to.getD k 0).toNat
def frK (n : Nat) (to : List Int) : Nat → List Nat
  | 0 => List.replicate n 0
  | k + 1 => (frK n to k).set (to.getD k 0).toNat k
theorem frK_len (n : Nat) (to : List Int) : ∀ k, (frK n to k).length = n
  | 0 => by simp [frK]
  | k + 1 => by rw [frK, List.length_set]; exact frK_len n to k
theorem seenK_bit {n : Nat} {to : List Int} : ∀ {k : Nat}, PreP n to k → ∀ i : Nat, (seenK to k).testBit i = true ↔ ∃ j, j < k ∧ to.getD j 0 = (i : Int)
  | 0, _, i => by
    rw [seenK, Nat.zero_testBit]
    exact ⟨fun h => (by cases h), fun ⟨j, hj, _⟩ => absurd hj (by omega)⟩
  | k + 1, h, i => by
    have ih := seenK_bit (k := k) ⟨fun i hi => h.rng i (by omega), fun i j hi hj => h.inj i j (by omega) (by omega)⟩ i
    rw [seenK, Nat.testBit_or, Bool.or_eq_true, ih, Nat.testBit_two_pow]
    have hr := h.rng k (by omega)
    constructor
    · rintro (⟨j, h1, h2⟩ | h1)
      · exact ⟨j, by omega, h2⟩
      · have := of_decide_eq_true h1
        exact ⟨k, by omega, by omega⟩
    · rintro ⟨j, h1, h2⟩
      by_cases e : j = k
      · subst e; exact .inr (decide_eq_true (by omega))
      · exact .inl ⟨j, by omega, h2⟩
theorem PreP.zero (n : Nat) (to : List Int) : PreP n to 0 := ⟨fun i hi => absurd hi (by omega), fun i j hi _ => absurd hi (by omega)⟩
theorem PreP.next {n : Nat} {to : List Int} {k : Nat} (h : PreP n to k) (h0 : 0 ≤ to.getD k 0) (h1 : to.getD k 0 < n) (h2 : (seenK to k).testBit (to.getD k 0).toNat = false) : PreP n to (k + 1) := by
  have hn : ∀ j, j < k → to.getD j 0 ≠ to.getD k 0 := fun j hj e => by
    have := (seenK_bit h (to.getD k 0).toNat).2 ⟨j, hj, by omega⟩
    rw [h2] at this; cases this
  refine ⟨fun i hi => ?_, fun i j hi hj e => ?_⟩
  · by_cases e : i = k
    · subst e; exact ⟨h0, h1⟩
    · exact h.rng i (by omega)
  · by_cases e1 : i = k
    · by_cases e2 : j = k
      · omega
      · subst e1; exact absurd e.symm (hn j (by omega))
    · by_cases e2 : j = k
      · subst e2; exact absurd e (hn i (by omega))
      · exact h.inj i j (by omega) (by omega) e
theorem frK_at {n : Nat} {to : List Int} : ∀ {k : Nat}, PreP n to k → ∀ j, j < k → (frK n to k).getD (to.getD j 0).toNat 0 = j
  | 0, _, j, hj => absurd hj (by omega)
  | k + 1, h, j, hj => by
    have h' : PreP n to k := ⟨fun i hi => h.rng i (by omega), fun i j hi hj => h.inj i j (by omega) (by omega)⟩
    have hl := frK_len n to k
    have hr := h.rng k (by omega)
    have hrj := h.rng j hj
    rw [frK, List.getD_eq_getElem?_getD, List.getElem?_set]
    by_cases e : j = k
    · subst e
      rw [if_pos rfl, if_pos (by omega)]; rfl
    · rw [if_neg (fun e2 => e (h.inj j k hj (by omega) (by omega)))]
      rw [← List.getD_eq_getElem?_getD]
      exact frK_at h' j (by omega)
theorem PreP.perm {n : Nat} {to : List Int} (h : PreP n to n) (hl : to.length = n) : PermL n to := ⟨hl, h.rng, h.inj⟩
theorem PreP.fin {n : Nat} {to : List Int} (h : PreP n to n) (hl : to.length = n) : frK n to n = invL n to := by
  have p := h.perm hl
  refine IsInv.unique p ⟨frK_len n to n, fun i hi => ?_⟩ p.inv
  obtain ⟨w, hw, e⟩ := p.sur hi
  have h1 := frK_at h w hw
  rw [e] at h1
  rw [show ((i : Int)).toNat = i from rfl] at h1
  rw [h1]
  exact ⟨hw, e⟩
/-- the reference's walk -/
def posL (to : List Int) (i k : Nat) : List Nat := (List.range k).filter (fun w => decide (to.getD w 0 = (i : Int)))
theorem posL_hit (to : List Int) (i k : Nat) (h : to.getD k 0 = (i : Int)) : posL to i (k + 1) = posL to i k ++ [k] := by
  unfold posL; rw [List.range_succ, List.filter_append]; simp only [List.filter_cons, List.filter_nil, decide_eq_true h, if_true]
theorem posL_miss (to : List Int) (i k : Nat) (h : ¬ to.getD k 0 = (i : Int)) : posL to i (k + 1) = posL to i k := by
  unfold posL; rw [List.range_succ, List.filter_append]; simp only [List.filter_cons, List.filter_nil, decide_eq_false h]; simp
theorem PermL.pos {n : Nat} {to : List Int} (h : PermL n to) {i w : Nat} (hw : w < n) (e : to.getD w 0 = (i : Int)) : ∀ k, k ≤ n → posL to i k = if w < k then [w] else []
  | 0, _ => by rw [if_neg (by omega)]; rfl
  | k + 1, hk => by
    have ih := h.pos hw e k (by omega)
    by_cases h1 : to.getD k 0 = (i : Int)
    · have : k = w := h.inj k w (by omega) hw (by rw [h1, e])
      subst this
      rw [posL_hit to i k h1, ih, if_neg (by omega), if_pos (by omega)]; rfl
    · rw [posL_miss to i k h1, ih]
      have : k ≠ w := fun e2 => h1 (by rw [e2]; exact e)
      by_cases h2 : w < k
      · rw [if_pos h2, if_pos (by omega)]
      · rw [if_neg h2, if_neg (by omega)]
/-- the inverse of the first i numbers -/
structure InvK (n : Nat) (to : List Int) (i : Nat) (l : List Nat) : Prop where
  len : l.length = i
  at_ : ∀ j, j < i → l.getD j 0 < n ∧ to.getD (l.getD j 0) 0 = (j : Int)
theorem InvK.zero (n : Nat) (to : List Int) : InvK n to 0 [] := ⟨rfl, fun j hj => absurd hj (by omega)⟩
theorem InvK.next {n i : Nat} {to : List Int} {l : List Nat} (h : InvK n to i l) (h1 : (posL to i n).length = 1) : InvK n to (i + 1) (l ++ posL to i n) := by
  obtain ⟨w, hw⟩ : ∃ w, posL to i n = [w] := List.length_eq_one_iff.1 h1
  have hm : w ∈ posL to i n := by rw [hw]; exact List.mem_singleton.2 rfl
  unfold posL at hm
  rw [List.mem_filter, List.mem_range, decide_eq_true_eq] at hm
  rw [hw]
  have hl := h.len
  refine ⟨by rw [List.length_append, hl]; rfl, fun j hj => ?_⟩
  by_cases e : j = i
  · subst e
    have : (l ++ [w]).getD j 0 = w := by rw [List.getD_eq_getElem?_getD, List.getElem?_append_right (by omega)]; simp [hl]
    rw [this]; exact hm
  · have : (l ++ [w]).getD j 0 = l.getD j 0 := by rw [List.getD_eq_getElem?_getD, List.getElem?_append_left (by omega), ← List.getD_eq_getElem?_getD]
    rw [this]; exact h.at_ j (by omega)
theorem InvK.fin {n : Nat} {to : List Int} {l : List Nat} (h : InvK n to n l) (hl : to.length = n) : PermL n to ∧ l = invL n to := by
  have a : IsInv n to l := ⟨h.len, h.at_⟩
  have p := a.perm hl
  exact ⟨p, a.unique p p.inv⟩
def mo0 : Mo := ⟨0, [], []⟩
def unionV (a b : Mo) (i : Nat) : Nat := a.val.getD i 0 ||| (b.val.getD i 0) * 2 ^ a.n.toNat
/-- the relations of a group -/
def gorK (rel : List (List Nat)) (g w : Nat) : Nat → Nat
  | 0 => 0
  | k + 1 => if g.testBit k then gorK rel g w k ||| (rel.getD k []).getD w 0 else gorK rel g w k
def gandK (s : Nat) (rel : List (List Nat)) (g w : Nat) : Nat → Nat
  | 0 => s
  | k + 1 => if g.testBit k then gandK s rel g w k &&& (rel.getD k []).getD w 0 else gandK s rel g w k
def isG (m : Mo) (g : Int) : Bool := decide (chkM m = 0) && decide (1 ≤ g) && decide (g < 2 ^ m.rel.length)
def groupL (m : Mo) (g : Int) : List Nat := if isG m g then (List.range m.n.toNat).map (fun w => gorK m.rel g.toNat w m.rel.length) else []
def meetL (m : Mo) (g : Int) : List Nat := if isG m g then (List.range m.n.toNat).map (fun w => gandK 18446744073709551615 m.rel g.toNat w m.rel.length) else []
theorem relW_lt {rel : List (List Nat)} {n : Nat} (h : ∀ r ∈ rel, ∀ x ∈ r, x < 2 ^ n) (k w : Nat) : (rel.getD k []).getD w 0 < 2 ^ n := by
  by_cases hk : k < rel.length
  · have e : rel.getD k [] = rel[k] := by simp [hk]
    rw [e]
    by_cases hw : w < rel[k].length
    · rw [List.getD_eq_getElem?_getD, List.getElem?_eq_getElem hw]
      exact h _ (List.getElem_mem _) _ (List.getElem_mem hw)
    · rw [List.getD_eq_getElem?_getD, List.getElem?_eq_none (by omega)]
      exact Nat.two_pow_pos n
  · have e : rel.getD k [] = [] := by rw [List.getD_eq_getElem?_getD, List.getElem?_eq_none (by omega)]; rfl
    rw [e]
    exact Nat.two_pow_pos n
theorem gandK_lt {rel : List (List Nat)} {n s g w : Nat} (h : ∀ r ∈ rel, ∀ x ∈ r, x < 2 ^ n) : ∀ k, (∃ j, j < k ∧ g.testBit j = true) → gandK s rel g w k < 2 ^ n
  | 0, ⟨j, hj, _⟩ => absurd hj (by omega)
  | k + 1, ⟨j, hj, hb⟩ => by
    unfold gandK
    split
    · exact Nat.lt_of_le_of_lt Nat.and_le_right (relW_lt h k w)
    · rename_i hg
      refine gandK_lt h k ⟨j, ?_, hb⟩
      by_cases e : j = k
      · subst e; exact absurd hb hg
      · omega
theorem gorK_lt {rel : List (List Nat)} {n g w : Nat} (h : ∀ r ∈ rel, ∀ x ∈ r, x < 2 ^ n) : ∀ k, gorK rel g w k < 2 ^ n
  | 0 => Nat.two_pow_pos n
  | k + 1 => by
    have ih := gorK_lt (g := g) (w := w) h k
    unfold gorK
    split
    · exact Nat.or_lt_two_pow ih (relW_lt h k w)
    · exact ih
theorem gandK_le (s : Nat) (rel : List (List Nat)) (g w : Nat) : ∀ k, gandK s rel g w k ≤ s
  | 0 => Nat.le_refl _
  | k + 1 => by
    have ih := gandK_le s rel g w k
    unfold gandK
    split
    · exact Nat.le_trans Nat.and_le_left ih
    · exact ih
end Go.Proofs.Ws
/- Mathematics of relations as lists of words: containment, and closures as the least relation with a property. -/
namespace Go.Proofs.Ws
def bit (l : List Nat) (w v : Nat) : Bool := (l.getD w 0).testBit v
/-- every pair of l is one of s -/
def Le (l s : List Nat) : Prop := ∀ w v, bit l w v = true → bit s w v = true
/-- a relation over m points -/
def Sh (m : Nat) (l : List Nat) : Prop := l.length = m ∧ ∀ x ∈ l, x < 2 ^ m
theorem Le.refl (l : List Nat) : Le l l := fun _ _ h => h
theorem Le.trans {a b c : List Nat} (h : Le a b) (k : Le b c) : Le a c := fun w v x => k w v (h w v x)
theorem Le.antisymm {m : Nat} {l s : List Nat} (hl : Sh m l) (hs : Sh m s) (h : Le l s) (k : Le s l) : l = s := by
  apply List.ext_getElem
  · rw [hl.1, hs.1]
  · intro i h1 h2
    apply Nat.eq_of_testBit_eq
    intro v
    have e1 : bit l i v = l[i].testBit v := by unfold bit; rw [List.getD_eq_getElem?_getD, List.getElem?_eq_getElem h1]; rfl
    have e2 : bit s i v = s[i].testBit v := by unfold bit; rw [List.getD_eq_getElem?_getD, List.getElem?_eq_getElem h2]; rfl
    have a := h i v
    have b := k i v
    rw [e1, e2] at a b
    cases hx : l[i].testBit v <;> cases hy : s[i].testBit v <;> simp_all
theorem bit_in {m : Nat} {l : List Nat} (h : Sh m l) {w v : Nat} (hb : bit l w v = true) : w < m ∧ v < m := by
  unfold bit at hb
  rw [List.getD_eq_getElem?_getD] at hb
  by_cases hw : w < l.length
  · rw [List.getElem?_eq_getElem hw] at hb
    have hx := h.2 _ (List.getElem_mem hw)
    refine ⟨by rw [← h.1]; exact hw, ?_⟩
    apply Classical.byContradiction
    intro hn
    have : l[w] < 2 ^ v := Nat.lt_of_lt_of_le hx (Nat.pow_le_pow_right (by decide) (by omega))
    simp [Nat.testBit_lt_two_pow this] at hb
  · rw [List.getElem?_eq_none (by omega)] at hb
    simp at hb
theorem Sh.set {m : Nat} {l : List Nat} (h : Sh m l) (w x : Nat) (hx : x < 2 ^ m) : Sh m (l.set w x) :=
  ⟨by rw [List.length_set]; exact h.1, fun y hy => by
    rcases List.mem_or_eq_of_mem_set hy with h' | h'
    · exact h.2 y h'
    · subst h'; exact hx⟩
/-- C is the least relation above r that has P -/
structure IsClo (m : Nat) (P : List Nat → Prop) (r C : List Nat) : Prop where
  sh : Sh m C
  up : Le r C
  has : P C
  least : ∀ s, Sh m s → P s → Le r s → Le C s
theorem IsClo.unique {m : Nat} {P : List Nat → Prop} {r C D : List Nat} (h : IsClo m P r C) (k : IsClo m P r D) : C = D :=
  Le.antisymm h.sh k.sh (h.least D k.sh k.has k.up) (k.least C h.sh h.has h.up)
theorem IsClo.fixed {m : Nat} {P : List Nat → Prop} {r C : List Nat} (h : IsClo m P r C) (hr : Sh m r) : C = r ↔ P r :=
  ⟨fun e => e ▸ h.has, fun hp => (Le.antisymm hr h.sh h.up (h.least r hr hp (Le.refl r))).symm⟩
/-- steps that add only pairs that every relation with P has, and that change nothing just where P holds -/
structure Steps (m : Nat) (P : List Nat → Prop) (st : List Nat → Nat → List Nat) : Prop where
  sh : ∀ l w, Sh m l → w < m → Sh m (st l w)
  up : ∀ l w, Sh m l → w < m → Le l (st l w)
  keep : ∀ l w s, Sh m l → w < m → Sh m s → P s → Le l s → Le (st l w) s
  stop : ∀ l, Sh m l → ((∀ w, w < m → st l w = l) ↔ P l)
/-- the steps at the points below k, one after the other -/
def run (st : List Nat → Nat → List Nat) (l : List Nat) (k : Nat) : List Nat := (List.range k).foldl st l
theorem run_succ (st : List Nat → Nat → List Nat) (l : List Nat) (k : Nat) : run st l (k + 1) = st (run st l k) k := by
  unfold run; rw [List.range_succ, List.foldl_append]; rfl
section
variable {m : Nat} {P : List Nat → Prop} {st : List Nat → Nat → List Nat}
theorem Steps.run_sh (h : Steps m P st) {l : List Nat} (hl : Sh m l) : ∀ k, k ≤ m → Sh m (run st l k) ∧ Le l (run st l k)
  | 0, _ => ⟨hl, Le.refl l⟩
  | k + 1, hk => by
    have ih := h.run_sh hl k (by omega)
    rw [run_succ]
    exact ⟨h.sh _ _ ih.1 (by omega), ih.2.trans (h.up _ _ ih.1 (by omega))⟩
theorem Steps.run_keep (h : Steps m P st) {l s : List Nat} (hl : Sh m l) (hs : Sh m s) (hp : P s) (hle : Le l s) : ∀ k, k ≤ m → Le (run st l k) s
  | 0, _ => hle
  | k + 1, hk => by
    rw [run_succ]
    exact h.keep _ _ s (h.run_sh hl k (by omega)).1 (by omega) hs hp (h.run_keep hl hs hp hle k (by omega))
/-- nothing changes in all points exactly if the property holds -/
theorem Steps.run_fixed (h : Steps m P st) {l : List Nat} (hl : Sh m l) : run st l m = l ↔ P l := by
  constructor
  · intro e
    refine (h.stop l hl).1 (fun w hw => ?_)
    have key : ∀ k, k ≤ m → Le (run st l k) (run st l m) := by
      intro k hk
      obtain ⟨d, rfl⟩ : ∃ d, m = k + d := ⟨m - k, by omega⟩
      clear e hw
      have go : ∀ d', d' ≤ d → Le (run st l k) (run st l (k + d')) := by
        intro d'
        induction d' with
        | zero => intro _; exact Le.refl _
        | succ d' ih =>
          intro hd
          rw [show k + (d' + 1) = (k + d') + 1 from rfl, run_succ]
          exact (ih (by omega)).trans (h.up _ _ (h.run_sh hl (k + d') (by omega)).1 (by omega))
      exact go d (Nat.le_refl _)
    have eqk : ∀ k, k ≤ m → run st l k = l := fun k hk =>
      Le.antisymm (h.run_sh hl k hk).1 hl (by have := key k hk; rwa [e] at this) (h.run_sh hl k hk).2
    have := eqk (w + 1) (by omega)
    rwa [run_succ, eqk w (by omega)] at this
  · intro hp
    exact Le.antisymm (h.run_sh hl m (Nat.le_refl _)).1 hl (h.run_keep hl hl hp (Le.refl l) m (Nat.le_refl _)) (h.run_sh hl m (Nat.le_refl _)).2
/-- what lies between r and every closed relation above it, and is closed, is the closure -/
theorem IsClo.of_fixed (h : Steps m P st) {r c : List Nat} (hc : Sh m c) (hup : Le r c) (hleast : ∀ s, Sh m s → P s → Le r s → Le c s) (hf : run st c m = c) : IsClo m P r c :=
  ⟨hc, hup, (h.run_fixed hc).1 hf, hleast⟩
end
/-- a step told by the pairs that it adds -/
theorem Steps.of_bits {m : Nat} {P : List Nat → Prop} {st : List Nat → Nat → List Nat} (D : List Nat → Nat → Nat → Nat → Prop)
    (hsh : ∀ l w, Sh m l → w < m → Sh m (st l w)) (hbit : ∀ l w a b, Sh m l → w < m → (bit (st l w) a b = true ↔ bit l a b = true ∨ D l w a b))
    (hkeep : ∀ l w s a b, Sh m l → w < m → Sh m s → P s → Le l s → D l w a b → bit s a b = true)
    (hstop : ∀ l, Sh m l → (∀ w a b, w < m → D l w a b → bit l a b = true) → P l) : Steps m P st where
  sh := hsh
  up := fun l w hl hw a b h => (hbit l w a b hl hw).2 (.inl h)
  keep := fun l w s hl hw hs hp hle a b h => ((hbit l w a b hl hw).1 h).elim (hle a b) (hkeep l w s a b hl hw hs hp hle)
  stop := fun l hl => by
    constructor
    · intro h
      refine hstop l hl (fun w a b hw hd => ?_)
      have := (hbit l w a b hl hw).2 (.inr hd)
      rwa [h w hw] at this
    · intro hp w hw
      refine Le.antisymm (hsh l w hl hw) hl (fun a b h => ?_) (fun a b h => (hbit l w a b hl hw).2 (.inl h))
      exact ((hbit l w a b hl hw).1 h).elim id (hkeep l w l a b hl hw hl hp (Le.refl l))
/-- the four properties -/
def PRefl (m : Nat) (l : List Nat) : Prop := ∀ w, w < m → bit l w w = true
def PTrans (l : List Nat) : Prop := ∀ w v u, bit l w v = true → bit l v u = true → bit l w u = true
def PEucl (l : List Nat) : Prop := ∀ w u v, bit l w u = true → bit l w v = true → bit l u v = true
end Go.Proofs.Ws
/- Layer 3: lists of numbers in cells; the check of a partition on both sides. -/
namespace Go.Proofs.YtjpmhbnikoggaaaDoor
open Go.RowKit Go.Proofs.Ws
/-- a list of numbers in cells -/
def ints (l : List Int) : List Value := l.map (fun z => Value.int .i64 z)
end Go.Proofs.YtjpmhbnikoggaaaDoor
