/- A region that draws its order, walked once: each operation in whatever world, from what is known of those that it waits for. -/
import Derived.Deep.RegionHeld3
namespace Go.Proofs.Ws
open Go
/-- what stands behind some of the operations -/
structure ListInv (ops : Array Oper) (a0 : Act) (d : Nat → Nat) (S : World → Prop) (V : Nat → Value → World → Prop) (listed : Array Bool) (a : Act) (W : World) : Prop where
  s : S W
  size : a.tmps.size = a0.tmps.size
  defers : a.defers = a0.defers
  frame : ∀ t, (∀ j, j < ops.size → d j ≠ t) → a.tmps.getD t undef = a0.tmps.getD t undef
  val : ∀ i, i < ops.size → listed.getD i false = true → V i (a.tmps.getD (d i) undef) W
theorem getD_set_same {α : Type} {l : Array α} {i : Nat} {x dflt : α} (h : i < l.size) : (l.setIfInBounds i x).getD i dflt = x := by
  simp [Array.getD, h]
theorem getD_set_other {α : Type} {l : Array α} {i j : Nat} {x dflt : α} (h : i ≠ j) : (l.setIfInBounds i x).getD j dflt = l.getD j dflt := by
  by_cases hj : j < l.size
  · simp [Array.getD, hj, h]
  · simp [Array.getD, hj]
theorem filter_set : ∀ (l : List Bool) (i : Nat), l[i]? = some false → ((l.set i true).filter (fun b => !b)).length + 1 = (l.filter (fun b => !b)).length
  | [], i, h => by simp at h
  | b :: l, 0, h => by
    simp at h
    subst h
    simp
  | b :: l, i + 1, h => by
    have ih := filter_set l i (by simpa using h)
    rw [List.set_cons_succ]
    cases b
    · simp only [List.filter_cons, Bool.not_false, if_true, List.length_cons]
      omega
    · simp only [List.filter_cons, Bool.not_true, Bool.false_eq_true, if_false]
      exact ih
/-- every operation waits for earlier ones alone -/
def waitsB (ops : Array Oper) : Bool := (List.range ops.size).all fun i => ((ops[i]?).map (fun o => o.after.all fun e => !Region.binds .any e || decide (e.on < i))).getD true
theorem all_listed {ops : Array Oper} (hw : waitsB ops = true) (listed : Array Bool) (hsz : listed.size = ops.size) (hr : Region.ready .any ops listed = []) : ∀ i, i < ops.size → listed.getD i false = true := by
  intro i
  induction i using Nat.strongRecOn with
  | ind i ih =>
    intro hi
    apply Classical.byContradiction
    intro hn
    have hi3 : i < listed.size := by omega
    have ho : ops[i]? = some ops[i] := by simp [hi]
    have hm : i ∈ Region.ready .any ops listed := by
      refine mem_ready.2 ⟨?_, ops[i], ho, fun e he hb => ?_⟩
      · simp [Array.getD, hi3] at hn ⊢
        exact hn
      · unfold waitsB at hw
        have h1 := List.all_eq_true.1 hw i (List.mem_range.2 hi)
        rw [ho] at h1
        simp only [Option.map_some, Option.getD_some] at h1
        have h2 := Array.all_eq_true_iff_forall_mem.1 h1 e he
        rw [hb] at h2
        have h3 : e.on < i := by simpa using h2
        exact ih e.on h3 (by omega)
    rw [hr] at hm
    cases hm
section
variable {P : Program} {ops : Array Oper} {Q : Exit → Act → World → Prop} {a0 : Act} {S : World → Prop} {R : World → World → Prop} {V : Nat → Value → World → Prop} {d : Nat → Nat}
/-- an operation's step keeps what stands -/
theorem ListInv.put {listed : Array Bool} {a : Act} {W W' : World} {i : Nat} {v : Value} (h : ListInv ops a0 d S V listed a W)
    (hV : ∀ i v W W', V i v W → R W W' → V i v W') (hS : ∀ W W', S W → R W W' → S W')
    (hinj : ∀ i j, i < ops.size → j < ops.size → d i = d j → i = j) (hlt : ∀ i, i < ops.size → d i < a0.tmps.size) (hi : i < ops.size) (_hl : i < listed.size)
    (hr : R W W') (hv : V i v W') : ListInv ops a0 d S V (listed.setIfInBounds i true) (a.put (some (d i)) v) W' := by
  refine ⟨hS _ _ h.s hr, by show (a.tmps.setIfInBounds _ _).size = _; rw [Array.size_setIfInBounds]; exact h.size, h.defers, fun t ht => ?_, fun j hj hlj => ?_⟩
  · show (a.tmps.setIfInBounds (d i) v).getD t undef = _
    rw [getD_set_other (ht i hi)]
    exact h.frame t ht
  · show V j ((a.tmps.setIfInBounds (d i) v).getD (d j) undef) W'
    by_cases e : i = j
    · subst e
      rw [getD_set_same (by rw [h.size]; exact hlt i hi)]
      exact hv
    · rw [getD_set_other (fun e2 => e (hinj i j hi hj e2))]
      rw [getD_set_other e] at hlj
      exact hV _ _ _ _ (h.val j hj hlj) hr
theorem wpAny_inv (hV : ∀ i v W W', V i v W → R W W' → V i v W') (hS : ∀ W W', S W → R W W' → S W') (_hR : ∀ W, R W W)
    (hd : ∀ i o, ops[i]? = some o → o.dst = some (d i)) (hinj : ∀ i j, i < ops.size → j < ops.size → d i = d j → i = j) (hlt : ∀ i, i < ops.size → d i < a0.tmps.size)
    (hall : ∀ listed : Array Bool, listed.size = ops.size → Region.ready .any ops listed = [] → ∀ i, i < ops.size → listed.getD i false = true)
    (hop : ∀ i o, ops[i]? = some o → ∀ (a : Act) (W : World), S W → a.tmps.size = a0.tmps.size → a.defers = a0.defers → (∀ t, (∀ j, j < ops.size → d j ≠ t) → a.tmps.getD t undef = a0.tmps.getD t undef) →
      (∀ e ∈ o.after, Region.binds .any e = true → e.on < ops.size → V e.on (a.tmps.getD (d e.on) undef) W) →
      ∀ K : Act → World → Prop, (∀ v W', R W W' → V i v W' → K (a.put o.dst v) W') → if Region.wanted o (yielded ops a.tmps) = true then Oper.wp P o a W K Q else K (a.put o.dst undef) W)
    (hfin : ∀ (a : Act) (W : World), S W → a.tmps.size = a0.tmps.size → a.defers = a0.defers → (∀ t, (∀ j, j < ops.size → d j ≠ t) → a.tmps.getD t undef = a0.tmps.getD t undef) →
      (∀ i, i < ops.size → V i (a.tmps.getD (d i) undef) W) → Q .normal a W) :
    ∀ (fuel : Nat) (listed : Array Bool) (a : Act) (W : World), listed.size = ops.size → (listed.toList.filter (fun b => !b)).length ≤ fuel → ListInv ops a0 d S V listed a W → wpAny P .any ops Q fuel listed a W := by
  intro fuel
  induction fuel with
  | zero =>
    intro listed a W hsz hf h
    have hl : ∀ i, i < ops.size → listed.getD i false = true := fun i hi => by
      have hi2 : i < listed.size := by omega
      have h0 : listed.toList.filter (fun b => !b) = [] := List.eq_nil_of_length_eq_zero (by omega)
      rw [List.filter_eq_nil_iff] at h0
      have := h0 listed[i] (by simp)
      simp [Array.getD, hi2]
      simpa using this
    refine ⟨?_, hfin a W h.s h.size h.defers h.frame (fun i hi => h.val i hi (hl i hi))⟩
    rw [List.eq_nil_iff_forall_not_mem]
    intro i hi
    obtain ⟨h1, o, ho, _⟩ := mem_ready.1 hi
    have hi2 : i < ops.size := (Array.getElem?_eq_some_iff.1 ho).1
    have h2 := hl i hi2
    have hi3 : i < listed.size := by omega
    simp [Array.getD, hi3] at h1 h2
    rw [h1] at h2
    cases h2
  | succ fuel ih =>
    intro listed a W hsz hf h
    refine ⟨fun hr => hfin a W h.s h.size h.defers h.frame (fun i hi => h.val i hi (hall listed hsz hr i hi)), fun i hi => ?_⟩
    obtain ⟨h1, o, ho, hb⟩ := mem_ready.1 hi
    have hi2 : i < ops.size := (Array.getElem?_eq_some_iff.1 ho).1
    have hi3 : i < listed.size := by omega
    refine wpOp_step ho (fun K hK => ?_)
    refine hop i o ho a W h.s h.size h.defers h.frame (fun e he hbi hlt2 => h.val e.on hlt2 (hb e he hbi)) K (fun v W' hr hv => hK _ _ ?_)
    refine ih _ _ _ (by rw [Array.size_setIfInBounds]; exact hsz) ?_ (by rw [hd i o ho]; exact h.put hV hS hinj hlt hi2 hi3 hr hv)
    have h9 := filter_set listed.toList i (by
      rw [Array.getElem?_toList, Array.getElem?_eq_getElem hi3]
      simp [Array.getD, hi3] at h1
      rw [h1])
    rw [Array.toList_setIfInBounds]
    omega
/-- A REGION THAT DRAWS ITS ORDER, ONCE: V i is what is known of operation i's value, in whatever world behind it (R: later); each operation is shown from what is known of those that it waits for. -/
theorem wp_region_inv {id : Nat} {w0 : World} (hm : P.follows .mixedOrders = true) (hw : waitsB ops = true) (hV : ∀ i v W W', V i v W → R W W' → V i v W') (hS : ∀ W W', S W → R W W' → S W') (hR : ∀ W, R W W)
    (hd : ∀ i o, ops[i]? = some o → o.dst = some (d i)) (hinj : ∀ i j, i < ops.size → j < ops.size → d i = d j → i = j) (hlt : ∀ i, i < ops.size → d i < a0.tmps.size)
    (h0 : S w0.drew)
    (hop : ∀ i o, ops[i]? = some o → ∀ (a : Act) (W : World), S W → a.tmps.size = a0.tmps.size → a.defers = a0.defers → (∀ t, (∀ j, j < ops.size → d j ≠ t) → a.tmps.getD t undef = a0.tmps.getD t undef) →
      (∀ e ∈ o.after, Region.binds .any e = true → e.on < ops.size → V e.on (a.tmps.getD (d e.on) undef) W) →
      ∀ K : Act → World → Prop, (∀ v W', R W W' → V i v W' → K (a.put o.dst v) W') → if Region.wanted o (yielded ops a.tmps) = true then Oper.wp P o a W K Q else K (a.put o.dst undef) W)
    (hfin : ∀ (a : Act) (W : World), S W → a.tmps.size = a0.tmps.size → a.defers = a0.defers → (∀ t, (∀ j, j < ops.size → d j ≠ t) → a.tmps.getD t undef = a0.tmps.getD t undef) →
      (∀ i, i < ops.size → V i (a.tmps.getD (d i) undef) W) → Q .normal a W) : (Code.region id ops true).wp P Q a0 w0 := by
  refine wp_region_any hm (wpAny_inv (V := V) (R := R) (S := S) (d := d) (a0 := a0) hV hS hR hd hinj hlt (fun l h1 h2 => all_listed hw l h1 h2) hop hfin _ _ _ _ (by simp) ?_ ⟨h0, rfl, rfl, fun _ _ => rfl, fun i hi hl => ?_⟩)
  · simp
  · simp [Array.getD, hi] at hl
/-- one operation, in whatever world -/
def StepAt (P : Program) (ops : Array Oper) (Q : Exit → Act → World → Prop) (a0 : Act) (S : World → Prop) (R : World → World → Prop) (V : Nat → Value → World → Prop) (d : Nat → Nat) (i : Nat) : Prop :=
  ∀ o, ops[i]? = some o → ∀ (a : Act) (W : World), S W → a.tmps.size = a0.tmps.size → a.defers = a0.defers → (∀ t, (∀ j, j < ops.size → d j ≠ t) → a.tmps.getD t undef = a0.tmps.getD t undef) →
      (∀ e ∈ o.after, Region.binds .any e = true → e.on < ops.size → V e.on (a.tmps.getD (d e.on) undef) W) →
      ∀ K : Act → World → Prop, (∀ v W', R W W' → V i v W' → K (a.put o.dst v) W') → if Region.wanted o (yielded ops a.tmps) = true then Oper.wp P o a W K Q else K (a.put o.dst undef) W
def dstB (ops : Array Oper) (d : Nat → Nat) : Bool := (List.range ops.size).all fun i => ((ops[i]?).map (fun o => decide (o.dst = some (d i)))).getD true
theorem dst_of (h : dstB ops d = true) : ∀ i o, ops[i]? = some o → o.dst = some (d i) := fun i o ho => by
  unfold dstB at h
  have h1 := List.all_eq_true.1 h i (List.mem_range.2 (Array.getElem?_eq_some_iff.1 ho).1)
  rw [ho] at h1
  exact of_decide_eq_true h1
/-- the same; what is known of a value is closed under later worlds -/
theorem wp_region_late {id : Nat} {w0 : World} (V0 : Nat → Value → World → Prop) (S : World → Prop) (R : World → World → Prop) (d : Nat → Nat) (n m : Nat) (hn : ops.size = n) (hmt : a0.tmps.size = m)
    (hm : P.follows .mixedOrders = true) (hw : waitsB ops = true) (hdB : dstB ops d = true) (hR : ∀ W, R W W) (hT : ∀ W1 W2 W3, R W1 W2 → R W2 W3 → R W1 W3) (hS : ∀ W W', S W → R W W' → S W')
    (hinj : ∀ i j, i < n → j < n → d i = d j → i = j) (hlt : ∀ i, i < n → d i < m) (h0 : S w0.drew)
    (hop : ∀ i, i < n → StepAt P ops Q a0 S R (fun i v W => ∀ W', R W W' → V0 i v W') d i)
    (hfin : ∀ (a : Act) (W : World), S W → a.tmps.size = m → a.defers = a0.defers → (∀ t, (∀ j, j < n → d j ≠ t) → a.tmps.getD t undef = a0.tmps.getD t undef) →
      (∀ i, i < n → V0 i (a.tmps.getD (d i) undef) W) → Q .normal a W) : (Code.region id ops true).wp P Q a0 w0 := by
  subst hn hmt
  exact wp_region_inv (V := fun i v W => ∀ W', R W W' → V0 i v W') hm hw (fun i v W W' h hr W2 h2 => h W2 (hT _ _ _ hr h2)) hS hR (dst_of hdB) hinj hlt h0 (fun i o ho => hop i (Array.getElem?_eq_some_iff.1 ho).1 o ho)
    (fun a W h1 h2 h3 h4 h5 => hfin a W h1 h2 h3 h4 (fun i hi => h5 i hi W (hR W)))
end
theorem lt_none (P : Nat → Prop) : ∀ i, i < 0 → P i := fun i h => absurd h (by omega)
theorem lt_more {P : Nat → Prop} {n : Nat} (h : ∀ i, i < n → P i) (hn : P n) : ∀ i, i < n + 1 → P i := fun i hi => by
  by_cases e : i = n
  · subst e; exact hn
  · exact h i (by omega)
end Go.Proofs.Ws
