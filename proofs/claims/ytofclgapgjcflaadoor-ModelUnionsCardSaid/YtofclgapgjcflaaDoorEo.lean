/- A region that draws its order and whose values are all known: walked once, with the frame written out behind it. -/
import Derived.Test.YtofclgapgjcflaaDoorEf
namespace Go.Proofs.Ws
open Go
/-- slots s, s + 1, .. hold these values -/
def fillT (t : Array Value) (s : Nat) : List Value → Array Value
  | [] => t
  | v :: l => fillT (t.setIfInBounds s v) (s + 1) l
theorem fillT_size : ∀ (l : List Value) (t : Array Value) (s : Nat), (fillT t s l).size = t.size
  | [], _, _ => rfl
  | v :: l, t, s => by rw [fillT, fillT_size l, Array.size_setIfInBounds]
theorem fillT_at : ∀ (l : List Value) (t : Array Value) (s i : Nat), s + l.length ≤ t.size → (fillT t s l).getD i undef = if s ≤ i ∧ i < s + l.length then l.getD (i - s) undef else t.getD i undef
  | [], t, s, i, _ => by rw [fillT, if_neg (by simp only [List.length_nil]; omega)]
  | v :: l, t, s, i, h => by
    rw [List.length_cons] at h
    rw [fillT, fillT_at l _ _ _ (by rw [Array.size_setIfInBounds]; omega), List.length_cons]
    by_cases e : i = s
    · subst e
      rw [if_neg (by omega), if_pos (by omega), getD_set_same (by omega), Nat.sub_self]; rfl
    · rw [getD_set_other (fun e2 => e e2.symm)]
      by_cases h2 : s + 1 ≤ i ∧ i < s + 1 + l.length
      · rw [if_pos h2, if_pos (by omega), show i - s = (i - (s + 1)) + 1 by omega]; rfl
      · rw [if_neg h2, if_neg (by omega)]
theorem array_ext_getD {a b : Array Value} (h : a.size = b.size) (he : ∀ i, i < a.size → a.getD i undef = b.getD i undef) : a = b := by
  apply Array.ext h
  intro i h1 h2
  have := he i h1
  simpa [Array.getD, h1, h2] using this
theorem wp_region_const {P : Program} {ops : Array Oper} {Q : Exit → Act → World → Prop} {a0 : Act} {id : Nat} {w0 : World} (vals : List Value) (s0 : Nat) (S : World → Prop) (R : World → World → Prop) (n m : Nat)
    (hn : ops.size = n) (hvl : vals.length = n) (hmt : a0.tmps.size = m) (hsm : s0 + n ≤ m)
    (hm : P.follows .mixedOrders = true) (hw : waitsB ops = true) (hdB : dstB ops (fun i => s0 + i) = true) (hR : ∀ W, R W W) (hT : ∀ W1 W2 W3, R W1 W2 → R W2 W3 → R W1 W3) (hS : ∀ W W', S W → R W W' → S W')
    (h0 : S w0.drew)
    (hop : ∀ i, i < n → StepAt P ops Q a0 S R (fun i v W => ∀ W', R W W' → v = vals.getD i undef) (fun i => s0 + i) i)
    (hfin : ∀ W, S W → Q .normal ⟨fillT a0.tmps s0 vals, a0.defers⟩ W) : (Code.region id ops true).wp P Q a0 w0 := by
  refine wp_region_late (fun i v _ => v = vals.getD i undef) S R (fun i => s0 + i) n m hn hmt hm hw hdB hR hT hS (fun i j _ _ h => by omega) (fun i hi => by omega) h0 hop (fun a W hSW hsz hdf hfr hv => ?_)
  obtain ⟨tm, df⟩ := a
  have hdf : df = a0.defers := hdf
  subst hdf
  have hsz : tm.size = m := hsz
  have e : tm = fillT a0.tmps s0 vals := by
    apply array_ext_getD (by rw [fillT_size, hsz, hmt])
    intro i hi
    rw [fillT_at _ _ _ _ (by rw [hvl, hmt]; exact hsm), hvl]
    by_cases h : s0 ≤ i ∧ i < s0 + n
    · rw [if_pos h]
      have := hv (i - s0) (by omega)
      dsimp only at this
      rwa [show s0 + (i - s0) = i by omega] at this
    · rw [if_neg h]
      exact hfr i (fun j hj e => h (by omega))
  subst e
  exact hfin W hSW
end Go.Proofs.Ws
