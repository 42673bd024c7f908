/- Layer 13: the parts of a union, restricted and generated. -/
import Derived.Test.YtofclgapgjcflaaDoorEd
namespace Go.Proofs.YtofclgapgjcflaaDoor
open Go.RowKit Go.Proofs.Ws
theorem andNot_nat {x y z : Nat} (_hx : x < 18446744073709551616) (hz : z < 18446744073709551616) (h : ∀ i, i < 64 → z.testBit i = (x.testBit i && !y.testBit i)) : bits .andNot .u64 (x : Int) (y : Int) = (z : Int) := by
  show IntKind.u64.wrap ((BitVec.ofInt 64 (x : Int) &&& ~~~ BitVec.ofInt 64 (y : Int)).toNat : Int) = _
  have e : (BitVec.ofInt 64 (x : Int) &&& ~~~ BitVec.ofInt 64 (y : Int)) = BitVec.ofNat 64 z := by
    apply BitVec.eq_of_getLsbD_eq
    intro i hi
    have e1 : ∀ u : Nat, (BitVec.ofInt 64 (u : Int)).getLsbD i = u.testBit i := fun u => by
      rw [BitVec.ofInt_natCast, BitVec.getLsbD_ofNat, decide_eq_true hi, Bool.true_and]
    rw [BitVec.getLsbD_and, BitVec.getLsbD_not, e1, e1, decide_eq_true hi, BitVec.getLsbD_ofNat, decide_eq_true hi, Bool.true_and, Bool.true_and, h i hi]
  rw [e, BitVec.toNat_ofNat, Nat.mod_eq_of_lt hz, IntKind.wrap_u64]
  omega
theorem Two.restL {na nb : Nat} {a b : Mo} (h : Two na nb a b) : restE (uniM a b) (2 ^ na - 1) = 0 ∧ restM (uniM a b) (2 ^ na - 1) = a ∧ csE (uniM a b) (2 ^ na - 1) = 0 ∧ genV (uniM a b) (2 ^ na - 1) = 2 ^ na - 1 := by
  have hp := Nat.two_pow_pos na
  have hle := h.hle
  have h1 : 2 ^ na ≤ 2 ^ (na + nb) := Nat.pow_le_pow_right (by decide) (by omega)
  have h2 : 2 ≤ 2 ^ na := by have := Nat.pow_le_pow_right (show 0 < 2 by decide) h.oa.pos; omega
  have en : (uniM a b).n.toNat = na + nb := by rw [h.ok.num]; rfl
  have hc : csE (uniM a b) (2 ^ na - 1) = 0 := csE_in h.ok.chk (by rw [en]; omega)
  have hr : restE (uniM a b) (2 ^ na - 1) = 0 := by unfold restE; rw [if_pos hc, if_neg (by omega)]
  refine ⟨hr, ?_, hc, ?_⟩
  · unfold restM
    rw [if_pos hr, mem_low (by omega), h.left]
  · unfold genV
    rw [if_pos hc, en]
    exact gen_self h.ok.rel (by omega) h.closedL
theorem Two.restR {na nb : Nat} {a b : Mo} (h : Two na nb a b) : restE (uniM a b) (2 ^ (na + nb) - 2 ^ na) = 0 ∧ restM (uniM a b) (2 ^ (na + nb) - 2 ^ na) = b ∧ csE (uniM a b) (2 ^ (na + nb) - 2 ^ na) = 0 ∧ genV (uniM a b) (2 ^ (na + nb) - 2 ^ na) = 2 ^ (na + nb) - 2 ^ na := by
  have hp := Nat.two_pow_pos na
  have hle := h.hle
  have h1 : 2 ^ na < 2 ^ (na + nb) := Nat.pow_lt_pow_right (by decide) (by have := h.ob.pos; omega)
  have en : (uniM a b).n.toNat = na + nb := by rw [h.ok.num]; rfl
  have hc : csE (uniM a b) (2 ^ (na + nb) - 2 ^ na) = 0 := csE_in h.ok.chk (by rw [en]; omega)
  have hr : restE (uniM a b) (2 ^ (na + nb) - 2 ^ na) = 0 := by unfold restE; rw [if_pos hc, if_neg (by omega)]
  refine ⟨hr, ?_, hc, ?_⟩
  · unfold restM
    rw [if_pos hr, mem_high (by omega), h.right]
  · unfold genV
    rw [if_pos hc, en]
    exact gen_self h.ok.rel (by omega) h.closedR
theorem Two.right_bits {na nb : Nat} {a b : Mo} (h : Two na nb a b) : bits .andNot .u64 ((2 ^ (na + nb) - 1 : Nat) : Int) ((2 ^ na - 1 : Nat) : Int) = ((2 ^ (na + nb) - 2 ^ na : Nat) : Int) := by
  have hle := h.hle
  have h1 : 2 ^ (na + nb) ≤ 2 ^ 64 := Nat.pow_le_pow_right (by decide) hle
  have hp := Nat.two_pow_pos na
  have hp2 := Nat.two_pow_pos (na + nb)
  refine andNot_nat (by omega) (by omega) (fun i _ => ?_)
  rw [high_bit, low_bit, low_bit]
  by_cases h3 : na ≤ i
  · rw [decide_eq_true h3, decide_eq_false (show ¬ i < na by omega)]; simp
  · rw [decide_eq_false h3, decide_eq_true (show i < na by omega)]; simp
theorem two_at (w : World) (o1 o2 : Array Value) (t1 t2 : TypeId) :
    (((w.alloc (.cells o1 t1)).alloc (.cells o2 t2)).heap[w.heap.size]? = some (.cells o1 t1 (0, 0))) ∧
    (((w.alloc (.cells o1 t1)).alloc (.cells o2 t2)).heap[w.heap.size + 1]? = some (.cells o2 t2 (0, 0))) ∧
    Below w.heap.size w ((w.alloc (.cells o1 t1)).alloc (.cells o2 t2)) := by
  have sz : ∀ (W : World) (o : Obj), (W.alloc o).heap.size = W.heap.size + 1 := fun W o => by simp
  have new : ∀ (W : World) (o : Array Value) (t : TypeId) (k : Nat), k = W.heap.size → (W.alloc (.cells o t)).heap[k]? = some (.cells o t (0, 0)) := fun W o t k hk => by subst hk; exact heap_alloc_new W (.cells o t)
  have keep : ∀ (W : World) (o : Obj) (k : Nat) (x : Obj), W.heap[k]? = some x → (W.alloc o).heap[k]? = some x := fun W o k x h => (Below.heap_alloc W o k (Array.getElem?_eq_some_iff.1 h).1).trans h
  exact ⟨keep _ _ _ _ (new _ _ _ _ rfl), new _ _ _ _ (by simp only [sz]), ((Below.refl _ w).alloc (Nat.le_refl _) _).alloc (by simp) _⟩
end Go.Proofs.YtofclgapgjcflaaDoor
