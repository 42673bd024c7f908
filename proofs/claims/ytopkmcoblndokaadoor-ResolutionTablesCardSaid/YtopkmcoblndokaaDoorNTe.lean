/- Layer 6: texts joined: UEf UEo UEq UEr UEs UEt UEu. -/
import Derived.Deep.RegionHeld3
/- A region that draws its order, walked once: each operation in whatever world, from what is known of those that it waits for. -/
namespace Go.Proofs.Ws.rsl
open Go
/-- what stands behind some of the operations -/
structure ListInv (ops : Array Oper) (a0 : Act) (d : Nat → Nat) (S : World → Prop) (V : Nat → Value → World → Prop) (listed : Array Bool) (a : Act) (W : World) : Prop where
  s : S W
  size : a.tmps.size = a0.tmps.size
  defers : a.defers = a0.defers
  frame : ∀ t, (∀ j, j < ops.size → d j ≠ t) → a.tmps.getD t undef = a0.tmps.getD t undef
  val : ∀ i, i < ops.size → listed.getD i false = true → V i (a.tmps.getD (d i) undef) W
theorem getD_set_same {α : Type} {l : Array α} {i : Nat} {x dflt : α} (h : i < l.size) : (l.setIfInBounds i x).getD i dflt = x := by
  simp [Array.getD, h]
theorem getD_set_other {α : Type} {l : Array α} {i j : Nat} {x dflt : α} (h : i ≠ j) : (l.setIfInBounds i x).getD j dflt = l.getD j dflt := by
  by_cases hj : j < l.size
  · simp [Array.getD, hj, h]
  · simp [Array.getD, hj]
theorem filter_set : ∀ (l : List Bool) (i : Nat), l[i]? = some false → ((l.set i true).filter (fun b => !b)).length + 1 = (l.filter (fun b => !b)).length
  | [], i, h => by simp at h
  | b :: l, 0, h => by
    simp at h
    subst h
    simp
  | b :: l, i + 1, h => by
    have ih := filter_set l i (by simpa using h)
    rw [List.set_cons_succ]
    cases b
    · simp only [List.filter_cons, Bool.not_false, if_true, List.length_cons]
      omega
    · simp only [List.filter_cons, Bool.not_true, Bool.false_eq_true, if_false]
      exact ih
/-- every operation waits for earlier ones alone -/
def waitsB (ops : Array Oper) : Bool := (List.range ops.size).all fun i => ((ops[i]?).map (fun o => o.after.all fun e => !Region.binds .any e || decide (e.on < i))).getD true
theorem all_listed {ops : Array Oper} (hw : waitsB ops = true) (listed : Array Bool) (hsz : listed.size = ops.size) (hr : Region.ready .any ops listed = []) : ∀ i, i < ops.size → listed.getD i false = true := by
  intro i
  induction i using Nat.strongRecOn with
  | ind i ih =>
    intro hi
    apply Classical.byContradiction
    intro hn
    have hi3 : i < listed.size := by omega
    have ho : ops[i]? = some ops[i] := by simp [hi]
    have hm : i ∈ Region.ready .any ops listed := by
      refine mem_ready.2 ⟨?_, ops[i], ho, fun e he hb => ?_⟩
      · simp [Array.getD, hi3] at hn ⊢
        exact hn
      · unfold waitsB at hw
        have h1 := List.all_eq_true.1 hw i (List.mem_range.2 hi)
        rw [ho] at h1
        simp only [Option.map_some, Option.getD_some] at h1
        have h2 := Array.all_eq_true_iff_forall_mem.1 h1 e he
        rw [hb] at h2
        have h3 : e.on < i := by simpa using h2
        exact ih e.on h3 (by omega)
    rw [hr] at hm
    cases hm
section
variable {P : Program} {ops : Array Oper} {Q : Exit → Act → World → Prop} {a0 : Act} {S : World → Prop} {R : World → World → Prop} {V : Nat → Value → World → Prop} {d : Nat → Nat}
/-- an operation's step keeps what stands -/
theorem ListInv.put {listed : Array Bool} {a : Act} {W W' : World} {i : Nat} {v : Value} (h : ListInv ops a0 d S V listed a W)
    (hV : ∀ i v W W', V i v W → R W W' → V i v W') (hS : ∀ W W', S W → R W W' → S W')
    (hinj : ∀ i j, i < ops.size → j < ops.size → d i = d j → i = j) (hlt : ∀ i, i < ops.size → d i < a0.tmps.size) (hi : i < ops.size) (_hl : i < listed.size)
    (hr : R W W') (hv : V i v W') : ListInv ops a0 d S V (listed.setIfInBounds i true) (a.put (some (d i)) v) W' := by
  refine ⟨hS _ _ h.s hr, by show (a.tmps.setIfInBounds _ _).size = _; rw [Array.size_setIfInBounds]; exact h.size, h.defers, fun t ht => ?_, fun j hj hlj => ?_⟩
  · show (a.tmps.setIfInBounds (d i) v).getD t undef = _
    rw [getD_set_other (ht i hi)]
    exact h.frame t ht
  · show V j ((a.tmps.setIfInBounds (d i) v).getD (d j) undef) W'
    by_cases e : i = j
    · subst e
      rw [getD_set_same (by rw [h.size]; exact hlt i hi)]
      exact hv
    · rw [getD_set_other (fun e2 => e (hinj i j hi hj e2))]
      rw [getD_set_other e] at hlj
      exact hV _ _ _ _ (h.val j hj hlj) hr
theorem wpAny_inv (hV : ∀ i v W W', V i v W → R W W' → V i v W') (hS : ∀ W W', S W → R W W' → S W') (_hR : ∀ W, R W W)
    (hd : ∀ i o, ops[i]? = some o → o.dst = some (d i)) (hinj : ∀ i j, i < ops.size → j < ops.size → d i = d j → i = j) (hlt : ∀ i, i < ops.size → d i < a0.tmps.size)
    (hall : ∀ listed : Array Bool, listed.size = ops.size → Region.ready .any ops listed = [] → ∀ i, i < ops.size → listed.getD i false = true)
    (hop : ∀ i o, ops[i]? = some o → ∀ (a : Act) (W : World), S W → a.tmps.size = a0.tmps.size → a.defers = a0.defers → (∀ t, (∀ j, j < ops.size → d j ≠ t) → a.tmps.getD t undef = a0.tmps.getD t undef) →
      (∀ e ∈ o.after, Region.binds .any e = true → e.on < ops.size → V e.on (a.tmps.getD (d e.on) undef) W) →
      ∀ K : Act → World → Prop, (∀ v W', R W W' → V i v W' → K (a.put o.dst v) W') → if Region.wanted o (yielded ops a.tmps) = true then Oper.wp P o a W K Q else K (a.put o.dst undef) W)
    (hfin : ∀ (a : Act) (W : World), S W → a.tmps.size = a0.tmps.size → a.defers = a0.defers → (∀ t, (∀ j, j < ops.size → d j ≠ t) → a.tmps.getD t undef = a0.tmps.getD t undef) →
      (∀ i, i < ops.size → V i (a.tmps.getD (d i) undef) W) → Q .normal a W) :
    ∀ (fuel : Nat) (listed : Array Bool) (a : Act) (W : World), listed.size = ops.size → (listed.toList.filter (fun b => !b)).length ≤ fuel → ListInv ops a0 d S V listed a W → wpAny P .any ops Q fuel listed a W := by
  intro fuel
  induction fuel with
  | zero =>
    intro listed a W hsz hf h
    have hl : ∀ i, i < ops.size → listed.getD i false = true := fun i hi => by
      have hi2 : i < listed.size := by omega
      have h0 : listed.toList.filter (fun b => !b) = [] := List.eq_nil_of_length_eq_zero (by omega)
      rw [List.filter_eq_nil_iff] at h0
      have := h0 listed[i] (by simp)
      simp [Array.getD, hi2]
      simpa using this
    refine ⟨?_, hfin a W h.s h.size h.defers h.frame (fun i hi => h.val i hi (hl i hi))⟩
    rw [List.eq_nil_iff_forall_not_mem]
    intro i hi
    obtain ⟨h1, o, ho, _⟩ := mem_ready.1 hi
    have hi2 : i < ops.size := (Array.getElem?_eq_some_iff.1 ho).1
    have h2 := hl i hi2
    have hi3 : i < listed.size := by omega
    simp [Array.getD, hi3] at h1 h2
    rw [h1] at h2
    cases h2
  | succ fuel ih =>
    intro listed a W hsz hf h
    refine ⟨fun hr => hfin a W h.s h.size h.defers h.frame (fun i hi => h.val i hi (hall listed hsz hr i hi)), fun i hi => ?_⟩
    obtain ⟨h1, o, ho, hb⟩ := mem_ready.1 hi
    have hi2 : i < ops.size := (Array.getElem?_eq_some_iff.1 ho).1
    have hi3 : i < listed.size := by omega
    refine wpOp_step ho (fun K hK => ?_)
    refine hop i o ho a W h.s h.size h.defers h.frame (fun e he hbi hlt2 => h.val e.on hlt2 (hb e he hbi)) K (fun v W' hr hv => hK _ _ ?_)
    refine ih _ _ _ (by rw [Array.size_setIfInBounds]; exact hsz) ?_ (by rw [hd i o ho]; exact h.put hV hS hinj hlt hi2 hi3 hr hv)
    have h9 := filter_set listed.toList i (by
      rw [Array.getElem?_toList, Array.getElem?_eq_getElem hi3]
      simp [Array.getD, hi3] at h1
      rw [h1])
    rw [Array.toList_setIfInBounds]
    omega
/-- A REGION THAT DRAWS ITS ORDER, ONCE: V i is what is known of operation i's value, in whatever world behind it (R: later); each operation is shown from what is known of those that it waits for. -/
theorem wp_region_inv {id : Nat} {w0 : World} (hm : P.follows .mixedOrders = true) (hw : waitsB ops = true) (hV : ∀ i v W W', V i v W → R W W' → V i v W') (hS : ∀ W W', S W → R W W' → S W') (hR : ∀ W, R W W)
    (hd : ∀ i o, ops[i]? = some o → o.dst = some (d i)) (hinj : ∀ i j, i < ops.size → j < ops.size → d i = d j → i = j) (hlt : ∀ i, i < ops.size → d i < a0.tmps.size)
    (h0 : S w0.drew)
    (hop : ∀ i o, ops[i]? = some o → ∀ (a : Act) (W : World), S W → a.tmps.size = a0.tmps.size → a.defers = a0.defers → (∀ t, (∀ j, j < ops.size → d j ≠ t) → a.tmps.getD t undef = a0.tmps.getD t undef) →
      (∀ e ∈ o.after, Region.binds .any e = true → e.on < ops.size → V e.on (a.tmps.getD (d e.on) undef) W) →
      ∀ K : Act → World → Prop, (∀ v W', R W W' → V i v W' → K (a.put o.dst v) W') → if Region.wanted o (yielded ops a.tmps) = true then Oper.wp P o a W K Q else K (a.put o.dst undef) W)
    (hfin : ∀ (a : Act) (W : World), S W → a.tmps.size = a0.tmps.size → a.defers = a0.defers → (∀ t, (∀ j, j < ops.size → d j ≠ t) → a.tmps.getD t undef = a0.tmps.getD t undef) →
      (∀ i, i < ops.size → V i (a.tmps.getD (d i) undef) W) → Q .normal a W) : (Code.region id ops true).wp P Q a0 w0 := by
  refine wp_region_any hm (wpAny_inv (V := V) (R := R) (S := S) (d := d) (a0 := a0) hV hS hR hd hinj hlt (fun l h1 h2 => all_listed hw l h1 h2) hop hfin _ _ _ _ (by simp) ?_ ⟨h0, rfl, rfl, fun _ _ => rfl, fun i hi hl => ?_⟩)
  · simp
  · simp [Array.getD, hi] at hl
/-- one operation, in whatever world -/
def StepAt (P : Program) (ops : Array Oper) (Q : Exit → Act → World → Prop) (a0 : Act) (S : World → Prop) (R : World → World → Prop) (V : Nat → Value → World → Prop) (d : Nat → Nat) (i : Nat) : Prop :=
  ∀ o, ops[i]? = some o → ∀ (a : Act) (W : World), S W → a.tmps.size = a0.tmps.size → a.defers = a0.defers → (∀ t, (∀ j, j < ops.size → d j ≠ t) → a.tmps.getD t undef = a0.tmps.getD t undef) →
      (∀ e ∈ o.after, Region.binds .any e = true → e.on < ops.size → V e.on (a.tmps.getD (d e.on) undef) W) →
      ∀ K : Act → World → Prop, (∀ v W', R W W' → V i v W' → K (a.put o.dst v) W') → if Region.wanted o (yielded ops a.tmps) = true then Oper.wp P o a W K Q else K (a.put o.dst undef) W
def dstB (ops : Array Oper) (d : Nat → Nat) : Bool := (List.range ops.size).all fun i => ((ops[i]?).map (fun o => decide (o.dst = some (d i)))).getD true
theorem dst_of (h : dstB ops d = true) : ∀ i o, ops[i]? = some o → o.dst = some (d i) := fun i o ho => by
  unfold dstB at h
  have h1 := List.all_eq_true.1 h i (List.mem_range.2 (Array.getElem?_eq_some_iff.1 ho).1)
  rw [ho] at h1
  exact of_decide_eq_true h1
/-- the same; what is known of a value is closed under later worlds -/
theorem wp_region_late {id : Nat} {w0 : World} (V0 : Nat → Value → World → Prop) (S : World → Prop) (R : World → World → Prop) (d : Nat → Nat) (n m : Nat) (hn : ops.size = n) (hmt : a0.tmps.size = m)
    (hm : P.follows .mixedOrders = true) (hw : waitsB ops = true) (hdB : dstB ops d = true) (hR : ∀ W, R W W) (hT : ∀ W1 W2 W3, R W1 W2 → R W2 W3 → R W1 W3) (hS : ∀ W W', S W → R W W' → S W')
    (hinj : ∀ i j, i < n → j < n → d i = d j → i = j) (hlt : ∀ i, i < n → d i < m) (h0 : S w0.drew)
    (hop : ∀ i, i < n → StepAt P ops Q a0 S R (fun i v W => ∀ W', R W W' → V0 i v W') d i)
    (hfin : ∀ (a : Act) (W : World), S W → a.tmps.size = m → a.defers = a0.defers → (∀ t, (∀ j, j < n → d j ≠ t) → a.tmps.getD t undef = a0.tmps.getD t undef) →
      (∀ i, i < n → V0 i (a.tmps.getD (d i) undef) W) → Q .normal a W) : (Code.region id ops true).wp P Q a0 w0 := by
  subst hn hmt
  exact wp_region_inv (V := fun i v W => ∀ W', R W W' → V0 i v W') hm hw (fun i v W W' h hr W2 h2 => h W2 (hT _ _ _ hr h2)) hS hR (dst_of hdB) hinj hlt h0 (fun i o ho => hop i (Array.getElem?_eq_some_iff.1 ho).1 o ho)
    (fun a W h1 h2 h3 h4 h5 => hfin a W h1 h2 h3 h4 (fun i hi => h5 i hi W (hR W)))
end
theorem lt_none (P : Nat → Prop) : ∀ i, i < 0 → P i := fun i h => absurd h (by omega)
theorem lt_more {P : Nat → Prop} {n : Nat} (h : ∀ i, i < n → P i) (hn : P n) : ∀ i, i < n + 1 → P i := fun i hi => by
  by_cases e : i = n
  · subst e; exact hn
  · exact h i (by omega)
end Go.Proofs.Ws.rsl
/- A region that draws its order and whose values are all known: walked once, with the frame written out behind it. -/
namespace Go.Proofs.Ws.rsl
open Go
/-- slots s, s + 1, .. hold these values -/
def fillT (t : Array Value) (s : Nat) : List Value → Array Value
  | [] => t
  | v :: l => fillT (t.setIfInBounds s v) (s + 1) l
theorem fillT_size : ∀ (l : List Value) (t : Array Value) (s : Nat), (fillT t s l).size = t.size
  | [], _, _ => rfl
  | v :: l, t, s => by rw [fillT, fillT_size l, Array.size_setIfInBounds]
theorem fillT_at : ∀ (l : List Value) (t : Array Value) (s i : Nat), s + l.length ≤ t.size → (fillT t s l).getD i undef = if s ≤ i ∧ i < s + l.length then l.getD (i - s) undef else t.getD i undef
  | [], t, s, i, _ => by rw [fillT, if_neg (by simp only [List.length_nil]; omega)]
  | v :: l, t, s, i, h => by
    rw [List.length_cons] at h
    rw [fillT, fillT_at l _ _ _ (by rw [Array.size_setIfInBounds]; omega), List.length_cons]
    by_cases e : i = s
    · subst e
      rw [if_neg (by omega), if_pos (by omega), getD_set_same (by omega), Nat.sub_self]; rfl
    · rw [getD_set_other (fun e2 => e e2.symm)]
      by_cases h2 : s + 1 ≤ i ∧ i < s + 1 + l.length
      · rw [if_pos h2, if_pos (by omega), show i - s = (i - (s + 1)) + 1 by omega]; rfl
      · rw [if_neg h2, if_neg (by omega)]
theorem array_ext_getD {a b : Array Value} (h : a.size = b.size) (he : ∀ i, i < a.size → a.getD i undef = b.getD i undef) : a = b := by
  apply Array.ext h
  intro i h1 h2
  have := he i h1
  simpa [Array.getD, h1, h2] using this
end Go.Proofs.Ws.rsl
/- A region that draws its order, in which all values are known but those of three operations in a row: a slice is built, appended, and what comes is stored. -/
namespace Go.Proofs.Ws.rsl
open Go
/-- each operation but the last one has a later one that waits for it -/
def nextB (ops : Array Oper) (last : Nat) : Bool := (List.range last).all fun i => (List.range (last + 1)).any fun j => decide (i < j) && ((ops[j]?).map (fun o => o.after.any fun e => Region.binds .any e && (e.on == i))).getD false
/-- an operation waits for another one -/
def onB (ops : Array Oper) (j i : Nat) : Bool := ((ops[j]?).map (fun o => o.after.any fun e => Region.binds .any e && (e.on == i))).getD false
/-- what is listed waits for what is listed alone -/
def DownL (ops : Array Oper) (listed : Array Bool) : Prop := ∀ i o, ops[i]? = some o → listed.getD i false = true → ∀ e ∈ o.after, Region.binds .any e = true → listed.getD e.on false = true
theorem DownL.on {ops : Array Oper} {listed : Array Bool} {j i : Nat} (h : DownL ops listed) (hj : listed.getD j false = true) (hb : onB ops j i = true) : listed.getD i false = true := by
  unfold onB at hb
  cases ho : ops[j]? with
  | none => rw [ho] at hb; cases hb
  | some o =>
    rw [ho] at hb
    simp only [Option.map_some, Option.getD_some] at hb
    rw [Array.any_eq_true'] at hb
    obtain ⟨e, he, h2⟩ := hb
    rw [Bool.and_eq_true] at h2
    have h3 : e.on = i := by simpa using h2.2
    rw [← h3]
    exact h j o ho hj e he h2.1
theorem DownL.last {ops : Array Oper} {listed : Array Bool} {last : Nat} (h : DownL ops listed) (hn : nextB ops last = true) (hl : listed.getD last false = true) : ∀ k i, i ≤ last → last - i ≤ k → listed.getD i false = true
  | 0, i, hi, hk => by rw [show i = last by omega]; exact hl
  | k + 1, i, hi, hk => by
    by_cases e : i = last
    · rw [e]; exact hl
    · have h1 := List.all_eq_true.1 hn i (List.mem_range.2 (by omega))
      obtain ⟨j, hj, h2⟩ := List.any_eq_true.1 h1
      rw [Bool.and_eq_true] at h2
      have hij : i < j := of_decide_eq_true h2.1
      have hjl := List.mem_range.1 hj
      exact h.on (h.last hn hl k j (by omega) (by omega)) h2.2
theorem DownL.put {ops : Array Oper} {listed : Array Bool} {i : Nat} {o : Oper} (h : DownL ops listed) (hi : i < listed.size) (ho : ops[i]? = some o) (hd : ∀ e ∈ o.after, Region.binds .any e = true → listed.getD e.on false = true) : DownL ops (listed.setIfInBounds i true) := by
  have up : ∀ k, listed.getD k false = true → (listed.setIfInBounds i true).getD k false = true := fun k hk => by
    by_cases e : i = k
    · subst e; exact getD_set_same hi
    · rw [getD_set_other e]; exact hk
  intro j o2 ho2 hj e he hb
  by_cases e2 : i = j
  · subst e2
    obtain rfl := Option.some.inj (ho.symm.trans ho2)
    exact up _ (hd e he hb)
  · rw [getD_set_other e2] at hj
    exact up _ (h j o2 ho2 hj e he hb)
section
variable {P : Program} {ops : Array Oper} {Q : Exit → Act → World → Prop} {a0 : Act} {C S0 S3 : World → Prop} {S1 S2 : World → Value → Prop} {vals : List Value} {s0 b ap last : Nat}
structure PhInv (ops : Array Oper) (a0 : Act) (S0 S3 : World → Prop) (S1 S2 : World → Value → Prop) (vals : List Value) (s0 b ap last : Nat) (listed : Array Bool) (a : Act) (W : World) : Prop where
  p0 : listed.getD b false = false → S0 W
  p1 : listed.getD b false = true → listed.getD ap false = false → S1 W (a.tmps.getD (s0 + b) undef)
  p2 : listed.getD ap false = true → listed.getD last false = false → S2 W (a.tmps.getD (s0 + ap) undef)
  p3 : listed.getD last false = true → S3 W
  down : DownL ops listed
  size : a.tmps.size = a0.tmps.size
  defers : a.defers = a0.defers
  frame : ∀ t, (∀ j, j < last → s0 + j ≠ t) → a.tmps.getD t undef = a0.tmps.getD t undef
  val : ∀ i, i < last → i ≠ b → i ≠ ap → listed.getD i false = true → a.tmps.getD (s0 + i) undef = vals.getD i undef
theorem PhInv.common {listed : Array Bool} {a : Act} {W : World} (h : PhInv ops a0 S0 S3 S1 S2 vals s0 b ap last listed a W) (hl : listed.getD last false = false)
    (hC0 : ∀ W, S0 W → C W) (hC1 : ∀ W v, S1 W v → C W) (hC2 : ∀ W v, S2 W v → C W) : C W := by
  cases hb : listed.getD b false with
  | false => exact hC0 _ (h.p0 hb)
  | true =>
    cases hp : listed.getD ap false with
    | false => exact hC1 _ _ (h.p1 hb hp)
    | true => exact hC2 _ _ (h.p2 hp hl)
/-- what an operation of the region finds -/
def Finds (a0 : Act) (vals : List Value) (s0 b ap last : Nat) (o : Oper) (a : Act) : Prop :=
  a.tmps.size = a0.tmps.size ∧ a.defers = a0.defers ∧ (∀ t, (∀ j, j < last → s0 + j ≠ t) → a.tmps.getD t undef = a0.tmps.getD t undef) ∧
  (∀ e ∈ o.after, Region.binds .any e = true → e.on ≠ b → e.on ≠ ap → e.on < last → a.tmps.getD (s0 + e.on) undef = vals.getD e.on undef)
def StepPure (P : Program) (ops : Array Oper) (Q : Exit → Act → World → Prop) (a0 : Act) (C : World → Prop) (vals : List Value) (s0 b ap last i : Nat) : Prop :=
  ∀ o, ops[i]? = some o → ∀ (a : Act) (W : World), C W → Finds a0 vals s0 b ap last o a →
    ∀ K : Act → World → Prop, K (a.put o.dst (vals.getD i undef)) W → if Region.wanted o (yielded ops a.tmps) = true then Oper.wp P o a W K Q else K (a.put o.dst undef) W
def StepTo (P : Program) (ops : Array Oper) (Q : Exit → Act → World → Prop) (a0 : Act) (S : World → Act → Prop) (T : World → Value → Prop) (vals : List Value) (s0 b ap last i : Nat) : Prop :=
  ∀ o, ops[i]? = some o → ∀ (a : Act) (W : World), S W a → Finds a0 vals s0 b ap last o a →
    ∀ K : Act → World → Prop, (∀ v W', T W' v → K (a.put o.dst v) W') → if Region.wanted o (yielded ops a.tmps) = true then Oper.wp P o a W K Q else K (a.put o.dst undef) W
theorem wpAny_bas (hn : ops.size = last + 1) (hb : b < last) (hap : ap < last) (hba : b ≠ ap)
    (hd : ∀ i o, ops[i]? = some o → i < last → o.dst = some (s0 + i)) (hdl : ∀ o, ops[last]? = some o → o.dst = none) (hlt : s0 + last ≤ a0.tmps.size)
    (hall : ∀ listed : Array Bool, listed.size = ops.size → Region.ready .any ops listed = [] → ∀ i, i < ops.size → listed.getD i false = true)
    (hnext : nextB ops last = true) (hab : onB ops ap b = true)
    (hC0 : ∀ W, S0 W → C W) (hC1 : ∀ W v, S1 W v → C W) (hC2 : ∀ W v, S2 W v → C W)
    (hpure : ∀ i, i < last → i ≠ b → i ≠ ap → StepPure P ops Q a0 C vals s0 b ap last i)
    (hB : StepTo P ops Q a0 (fun W _ => S0 W) S1 vals s0 b ap last b)
    (hA : StepTo P ops Q a0 (fun W a => S1 W (a.tmps.getD (s0 + b) undef)) S2 vals s0 b ap last ap)
    (hL : StepTo P ops Q a0 (fun W a => S2 W (a.tmps.getD (s0 + ap) undef)) (fun W _ => S3 W) vals s0 b ap last last)
    (hfin : ∀ (a : Act) (W : World), S3 W → a.tmps.size = a0.tmps.size → a.defers = a0.defers → (∀ t, (∀ j, j < last → s0 + j ≠ t) → a.tmps.getD t undef = a0.tmps.getD t undef) → Q .normal a W) :
    ∀ (fuel : Nat) (listed : Array Bool) (a : Act) (W : World), listed.size = ops.size → (listed.toList.filter (fun b => !b)).length ≤ fuel → PhInv ops a0 S0 S3 S1 S2 vals s0 b ap last listed a W → wpAny P .any ops Q fuel listed a W := by
  intro fuel
  induction fuel with
  | zero =>
    intro listed a W hsz hf h
    have hl : ∀ i, i < ops.size → listed.getD i false = true := fun i hi => by
      have hi2 : i < listed.size := by omega
      have h0 : listed.toList.filter (fun b => !b) = [] := List.eq_nil_of_length_eq_zero (by omega)
      rw [List.filter_eq_nil_iff] at h0
      have := h0 listed[i] (by simp)
      simp [Array.getD, hi2]
      simpa using this
    refine ⟨?_, hfin a W (h.p3 (hl last (by omega))) h.size h.defers h.frame⟩
    rw [List.eq_nil_iff_forall_not_mem]
    intro i hi
    obtain ⟨h1, o, ho, _⟩ := mem_ready.1 hi
    have hi2 : i < ops.size := (Array.getElem?_eq_some_iff.1 ho).1
    have h2 := hl i hi2
    have hi3 : i < listed.size := by omega
    simp [Array.getD, hi3] at h1 h2
    rw [h1] at h2
    cases h2
  | succ fuel ih =>
    intro listed a W hsz hf h
    refine ⟨fun hr => hfin a W (h.p3 (hall listed hsz hr last (by omega))) h.size h.defers h.frame, fun i hi => ?_⟩
    obtain ⟨h1, o, ho, hbd⟩ := mem_ready.1 hi
    have hi2 : i < ops.size := (Array.getElem?_eq_some_iff.1 ho).1
    have hi3 : i < listed.size := by omega
    have hnl : listed.getD i false = false := by
      simp [Array.getD, hi3] at h1 ⊢
      exact h1
    have hll : listed.getD last false = false := by
      cases e : listed.getD last false with
      | false => rfl
      | true =>
        have := h.down.last hnext e last i (by omega) (by omega)
        rw [hnl] at this; cases this
    have hf9 : ((listed.setIfInBounds i true).toList.filter (fun b => !b)).length ≤ fuel := by
      have h9 := filter_set listed.toList i (by
        rw [Array.getElem?_toList, Array.getElem?_eq_getElem hi3]
        simp [Array.getD, hi3] at h1
        rw [h1])
      rw [Array.toList_setIfInBounds]
      omega
    have hdn := h.down.put hi3 ho hbd
    have hF : Finds a0 vals s0 b ap last o a := ⟨h.size, h.defers, h.frame, fun e he hbi h2 h3 h4 => h.val e.on h4 h2 h3 (hbd e he hbi)⟩
    have put_size : ∀ k v, (a.put (some k) v).tmps.size = a0.tmps.size := fun k v => by show (a.tmps.setIfInBounds _ _).size = _; rw [Array.size_setIfInBounds]; exact h.size
    have put_frame : ∀ k v, k < last → ∀ t, (∀ j, j < last → s0 + j ≠ t) → (a.put (some (s0 + k)) v).tmps.getD t undef = a0.tmps.getD t undef := fun k v hk t ht => by
      show (a.tmps.setIfInBounds (s0 + k) v).getD t undef = _
      rw [getD_set_other (ht k hk)]
      exact h.frame t ht
    have put_same : ∀ k v, k < last → (a.put (some (s0 + k)) v).tmps.getD (s0 + k) undef = v := fun k v hk => by
      show (a.tmps.setIfInBounds (s0 + k) v).getD (s0 + k) undef = v
      exact getD_set_same (by rw [h.size]; omega)
    have put_other : ∀ k j v, k ≠ j → (a.put (some (s0 + k)) v).tmps.getD (s0 + j) undef = a.tmps.getD (s0 + j) undef := fun k j v hk => by
      show (a.tmps.setIfInBounds (s0 + k) v).getD (s0 + j) undef = _
      exact getD_set_other (fun e => hk (Nat.add_left_cancel e))
    have set_same : (listed.setIfInBounds i true).getD i false = true := getD_set_same hi3
    have set_other : ∀ k, i ≠ k → (listed.setIfInBounds i true).getD k false = listed.getD k false := fun k hk => getD_set_other hk
    refine wpOp_step ho (fun K hK => ?_)
    by_cases el : i = last
    · subst el
      have hs := hL o ho a W (h.p2 (by
        have hx : listed.getD ap false = true := by
          have hall2 := hdn.last hnext set_same i ap (by omega) (by omega)
          rwa [set_other ap (by omega)] at hall2
        exact hx) hll) hF K
      refine hs (fun v W' hT => hK _ _ (ih _ _ _ (by rw [Array.size_setIfInBounds]; exact hsz) hf9 ?_))
      rw [hdl o ho]
      have hallL : ∀ j, j ≤ i → (listed.setIfInBounds i true).getD j false = true := fun j hj => hdn.last hnext set_same i j hj (by omega)
      refine ⟨fun e => ?_, fun _ e => ?_, fun _ e => ?_, fun _ => hT, hdn, h.size, h.defers, h.frame, fun j hj h2 h3 h4 => ?_⟩
      · rw [hallL b (by omega)] at e; cases e
      · rw [hallL ap (by omega)] at e; cases e
      · rw [set_same] at e; cases e
      · have hji : i ≠ j := fun e => Nat.lt_irrefl j (e ▸ hj)
        rw [set_other j hji] at h4
        exact h.val j hj h2 h3 h4
    · have hil : i < last := by omega
      have hds := hd i o ho hil
      by_cases eb : i = b
      · subst eb
        have hpn : listed.getD ap false = false := by
          cases e : listed.getD ap false with
          | false => rfl
          | true => have := h.down.on e hab; rw [hnl] at this; cases this
        refine hB o ho a W (h.p0 hnl) hF K (fun v W' hT => hK _ _ (ih _ _ _ (by rw [Array.size_setIfInBounds]; exact hsz) hf9 ?_))
        rw [hds]
        refine ⟨fun e => ?_, fun _ _ => ?_, fun e _ => ?_, fun e => ?_, hdn, put_size _ _, h.defers, put_frame i v hil, fun j hj h2 h3 h4 => ?_⟩
        · rw [set_same] at e; cases e
        · rw [put_same i v hil]; exact hT
        · rw [set_other ap hba, hpn] at e; cases e
        · rw [set_other last el, hll] at e; cases e
        · rw [set_other j (fun e => h2 e.symm)] at h4
          rw [put_other i j v (fun e => h2 e.symm)]
          exact h.val j hj h2 h3 h4
      · by_cases ea : i = ap
        · subst ea
          have hbt : listed.getD b false = true := by
            have := hdn.on set_same hab
            rwa [set_other b eb] at this
          refine hA o ho a W (h.p1 hbt hnl) hF K (fun v W' hT => hK _ _ (ih _ _ _ (by rw [Array.size_setIfInBounds]; exact hsz) hf9 ?_))
          rw [hds]
          refine ⟨fun e => ?_, fun _ e => ?_, fun _ _ => ?_, fun e => ?_, hdn, put_size _ _, h.defers, put_frame i v hil, fun j hj h2 h3 h4 => ?_⟩
          · rw [set_other b eb, hbt] at e; cases e
          · rw [set_same] at e; cases e
          · rw [put_same i v hil]; exact hT
          · rw [set_other last el, hll] at e; cases e
          · rw [set_other j (fun e => h3 e.symm)] at h4
            rw [put_other i j v (fun e => h3 e.symm)]
            exact h.val j hj h2 h3 h4
        · refine hpure i hil eb ea o ho a W (h.common hll hC0 hC1 hC2) hF K (hK _ _ (ih _ _ _ (by rw [Array.size_setIfInBounds]; exact hsz) hf9 ?_))
          rw [hds]
          refine ⟨fun e => ?_, fun e1 e2 => ?_, fun e1 e2 => ?_, fun e => ?_, hdn, put_size _ _, h.defers, put_frame i _ hil, fun j hj h2 h3 h4 => ?_⟩
          · rw [set_other b eb] at e; exact h.p0 e
          · rw [set_other b eb] at e1
            rw [set_other ap ea] at e2
            rw [put_other i b _ eb]
            exact h.p1 e1 e2
          · rw [set_other ap ea] at e1
            rw [put_other i ap _ ea]
            exact h.p2 e1 hll
          · rw [set_other last el, hll] at e; cases e
          · by_cases e : i = j
            · subst e; exact put_same i _ hil
            · rw [set_other j e] at h4
              rw [put_other i j _ e]
              exact h.val j hj h2 h3 h4
def dstsB (ops : Array Oper) (s0 last : Nat) : Bool := ((List.range last).all fun i => ((ops[i]?).map (fun o => decide (o.dst = some (s0 + i)))).getD true) && ((ops[last]?).map (fun o => decide (o.dst = none))).getD true
theorem list_of_len : ∀ (n : Nat) (l : List Value), l.length = n → l = (List.range n).map (fun i => l.getD i undef) := fun n l h => by
  apply List.ext_getElem (by simp [h])
  intro i h1 h2
  simp [h1]
/-- THE REGION: what stands behind it are the old slots and some values in the region's own -/
theorem wp_region_bas {id : Nat} {w0 : World} (vals : List Value) (s0 b ap last m : Nat) (C S0 S3 : World → Prop) (S1 S2 : World → Value → Prop) (hn : ops.size = last + 1) (hmt : a0.tmps.size = m) (hlt : s0 + last ≤ m) (hb : b < last) (hap : ap < last) (hba : b ≠ ap)
    (hm : P.follows .mixedOrders = true) (hw : waitsB ops = true) (hdB : dstsB ops s0 last = true) (hnext : nextB ops last = true) (hab : onB ops ap b = true) (h0 : S0 w0.drew)
    (hC0 : ∀ W, S0 W → C W) (hC1 : ∀ W v, S1 W v → C W) (hC2 : ∀ W v, S2 W v → C W)
    (hpure : ∀ i, i < last → i ≠ b → i ≠ ap → StepPure P ops Q a0 C vals s0 b ap last i)
    (hB : StepTo P ops Q a0 (fun W _ => S0 W) S1 vals s0 b ap last b)
    (hA : StepTo P ops Q a0 (fun W a => S1 W (a.tmps.getD (s0 + b) undef)) S2 vals s0 b ap last ap)
    (hL : StepTo P ops Q a0 (fun W a => S2 W (a.tmps.getD (s0 + ap) undef)) (fun W _ => S3 W) vals s0 b ap last last)
    (hfin : ∀ (vs : List Value) (W : World), vs.length = last → S3 W → Q .normal ⟨fillT a0.tmps s0 ((List.range last).map (fun i => vs.getD i undef)), a0.defers⟩ W) : (Code.region id ops true).wp P Q a0 w0 := by
  subst hmt
  unfold dstsB at hdB
  rw [Bool.and_eq_true] at hdB
  refine wp_region_any hm (wpAny_bas (vals := vals) (C := C) (S0 := S0) (S1 := S1) (S2 := S2) (S3 := S3) (s0 := s0) (b := b) (ap := ap) (last := last) (a0 := a0) hn hb hap hba (fun i o ho hi => ?_) (fun o ho => ?_) hlt (fun l h1 h2 => all_listed hw l h1 h2) hnext hab hC0 hC1 hC2 hpure hB hA hL (fun a W hS hsz hdf hfr => ?_) _ _ _ _ (by simp) ?_ ?_)
  · have h1 := List.all_eq_true.1 hdB.1 i (List.mem_range.2 hi)
    rw [ho] at h1
    exact of_decide_eq_true h1
  · have h1 := hdB.2
    rw [ho] at h1
    exact of_decide_eq_true h1
  · obtain ⟨tm, df⟩ := a
    have hdf : df = a0.defers := hdf
    subst hdf
    have hsz : tm.size = a0.tmps.size := hsz
    have e : tm = fillT a0.tmps s0 ((List.range last).map (fun i => tm.getD (s0 + i) undef)) := by
      apply array_ext_getD (by rw [fillT_size, hsz])
      intro i hi
      rw [fillT_at _ _ _ _ (by simp; omega)]
      by_cases h : s0 ≤ i ∧ i < s0 + last
      · rw [if_pos (by simp; omega)]
        have : i - s0 < last := by omega
        simp [this, show s0 + (i - s0) = i by omega]
      · rw [if_neg (by simp; omega)]
        exact hfr i (fun j hj e => h (by omega))
    have h9 := hfin ((List.range last).map (fun i => tm.getD (s0 + i) undef)) W (by simp) hS
    rw [← list_of_len last _ (by simp), ← e] at h9
    exact h9
  · simp
  · refine ⟨fun _ => h0, fun e => ?_, fun e => ?_, fun e => ?_, fun i o ho e => ?_, rfl, rfl, fun _ _ => rfl, fun i hi _ _ e => ?_⟩
    all_goals (exfalso; revert e; simp [Array.getD]; try omega)
end
end Go.Proofs.Ws.rsl
/- A region that draws its order and ends in one store: each operation once, from what is known of those that it waits for. -/
namespace Go.Proofs.Ws.rsl
open Go
section
variable {P : Program} {ops : Array Oper} {Q : Exit → Act → World → Prop} {a0 : Act} {S : World → Prop} {S3 : List Value → World → Prop} {R : World → World → Prop} {V : Nat → Value → World → Prop} {d : Nat → Nat} {last : Nat}
/-- the values that the slots hold -/
def valsD (a : Act) (d : Nat → Nat) (last : Nat) : List Value := (List.range last).map fun i => a.tmps.getD (d i) undef
structure LastInv (ops : Array Oper) (a0 : Act) (S : World → Prop) (S3 : List Value → World → Prop) (V : Nat → Value → World → Prop) (d : Nat → Nat) (last : Nat) (listed : Array Bool) (a : Act) (W : World) : Prop where
  pre : listed.getD last false = false → S W
  post : listed.getD last false = true → S3 (valsD a d last) W
  down : DownL ops listed
  size : a.tmps.size = a0.tmps.size
  defers : a.defers = a0.defers
  frame : ∀ t, (∀ j, j < last → d j ≠ t) → a.tmps.getD t undef = a0.tmps.getD t undef
  val : listed.getD last false = false → ∀ i, i < last → listed.getD i false = true → V i (a.tmps.getD (d i) undef) W
/-- what an operation of the region finds -/
def FindsV (a0 : Act) (V : Nat → Value → World → Prop) (d : Nat → Nat) (last : Nat) (o : Oper) (a : Act) (W : World) : Prop :=
  a.tmps.size = a0.tmps.size ∧ a.defers = a0.defers ∧ (∀ t, (∀ j, j < last → d j ≠ t) → a.tmps.getD t undef = a0.tmps.getD t undef) ∧
  (∀ e ∈ o.after, Region.binds .any e = true → e.on < last → V e.on (a.tmps.getD (d e.on) undef) W)
def StepV (P : Program) (ops : Array Oper) (Q : Exit → Act → World → Prop) (a0 : Act) (S : World → Prop) (T : World → Value → World → Prop) (V : Nat → Value → World → Prop) (d : Nat → Nat) (last i : Nat) : Prop :=
  ∀ o, ops[i]? = some o → ∀ (a : Act) (W : World), S W → FindsV a0 V d last o a W →
    ∀ K : Act → World → Prop, (∀ v W', T W v W' → K (a.put o.dst v) W') → if Region.wanted o (yielded ops a.tmps) = true then Oper.wp P o a W K Q else K (a.put o.dst undef) W
/-- the last operation finds all that the others have left -/
def LastV (P : Program) (ops : Array Oper) (Q : Exit → Act → World → Prop) (a0 : Act) (S : World → Prop) (S3 : List Value → World → Prop) (V : Nat → Value → World → Prop) (d : Nat → Nat) (last : Nat) : Prop :=
  ∀ o, ops[last]? = some o → ∀ (a : Act) (W : World), S W → FindsV a0 V d last o a W → (∀ i, i < last → V i (a.tmps.getD (d i) undef) W) →
    ∀ K : Act → World → Prop, (∀ v W', S3 (valsD a d last) W' → K (a.put o.dst v) W') → if Region.wanted o (yielded ops a.tmps) = true then Oper.wp P o a W K Q else K (a.put o.dst undef) W
theorem wpAny_last (hn : ops.size = last + 1) (hd : ∀ i o, ops[i]? = some o → i < last → o.dst = some (d i)) (hdl : ∀ o, ops[last]? = some o → o.dst = none) (hlt : ∀ i, i < last → d i < a0.tmps.size) (hinj : ∀ i j, i < last → j < last → d i = d j → i = j)
    (hall : ∀ listed : Array Bool, listed.size = ops.size → Region.ready .any ops listed = [] → ∀ i, i < ops.size → listed.getD i false = true)
    (hnext : nextB ops last = true) (hV : ∀ i v W W', V i v W → R W W' → V i v W') (hS : ∀ W W', S W → R W W' → S W')
    (hop : ∀ i, i < last → StepV P ops Q a0 S (fun W v W' => R W W' ∧ V i v W') V d last i)
    (hL : LastV P ops Q a0 S S3 V d last)
    (hfin : ∀ (a : Act) (W : World), S3 (valsD a d last) W → a.tmps.size = a0.tmps.size → a.defers = a0.defers → (∀ t, (∀ j, j < last → d j ≠ t) → a.tmps.getD t undef = a0.tmps.getD t undef) → Q .normal a W) :
    ∀ (fuel : Nat) (listed : Array Bool) (a : Act) (W : World), listed.size = ops.size → (listed.toList.filter (fun b => !b)).length ≤ fuel → LastInv ops a0 S S3 V d last listed a W → wpAny P .any ops Q fuel listed a W := by
  intro fuel
  induction fuel with
  | zero =>
    intro listed a W hsz hf h
    have hl : ∀ i, i < ops.size → listed.getD i false = true := fun i hi => by
      have hi2 : i < listed.size := by omega
      have h0 : listed.toList.filter (fun b => !b) = [] := List.eq_nil_of_length_eq_zero (by omega)
      rw [List.filter_eq_nil_iff] at h0
      have := h0 listed[i] (by simp)
      simp [Array.getD, hi2]
      simpa using this
    refine ⟨?_, hfin a W (h.post (hl last (by omega))) h.size h.defers h.frame⟩
    rw [List.eq_nil_iff_forall_not_mem]
    intro i hi
    obtain ⟨h1, o, ho, _⟩ := mem_ready.1 hi
    have hi2 : i < ops.size := (Array.getElem?_eq_some_iff.1 ho).1
    have h2 := hl i hi2
    have hi3 : i < listed.size := by omega
    simp [Array.getD, hi3] at h1 h2
    rw [h1] at h2
    cases h2
  | succ fuel ih =>
    intro listed a W hsz hf h
    refine ⟨fun hr => hfin a W (h.post (hall listed hsz hr last (by omega))) h.size h.defers h.frame, fun i hi => ?_⟩
    obtain ⟨h1, o, ho, hbd⟩ := mem_ready.1 hi
    have hi2 : i < ops.size := (Array.getElem?_eq_some_iff.1 ho).1
    have hi3 : i < listed.size := by omega
    have hnl : listed.getD i false = false := by
      simp [Array.getD, hi3] at h1 ⊢
      exact h1
    have hll : listed.getD last false = false := by
      cases e : listed.getD last false with
      | false => rfl
      | true =>
        have := h.down.last hnext e last i (by omega) (by omega)
        rw [hnl] at this; cases this
    have hf9 : ((listed.setIfInBounds i true).toList.filter (fun b => !b)).length ≤ fuel := by
      have h9 := filter_set listed.toList i (by
        rw [Array.getElem?_toList, Array.getElem?_eq_getElem hi3]
        simp [Array.getD, hi3] at h1
        rw [h1])
      rw [Array.toList_setIfInBounds]
      omega
    have hdn := h.down.put hi3 ho hbd
    have hF : FindsV a0 V d last o a W := ⟨h.size, h.defers, h.frame, fun e he hbi h4 => h.val hll e.on h4 (hbd e he hbi)⟩
    have set_same : (listed.setIfInBounds i true).getD i false = true := getD_set_same hi3
    have set_other : ∀ k, i ≠ k → (listed.setIfInBounds i true).getD k false = listed.getD k false := fun k hk => getD_set_other hk
    refine wpOp_step ho (fun K hK => ?_)
    by_cases el : i = last
    · subst el
      refine hL o ho a W (h.pre hll) hF (fun j hj => h.val hll j hj ?_) K (fun v W' hT => hK _ _ (ih _ _ _ (by rw [Array.size_setIfInBounds]; exact hsz) hf9 ?_))
      · have h8 := DownL.last hdn hnext set_same i j (by omega) (by omega)
        rwa [set_other j (by omega)] at h8
      rw [hdl o ho]
      exact ⟨fun e => absurd (set_same.symm.trans e) (by decide), fun _ => hT, hdn, h.size, h.defers, h.frame, fun e => absurd (set_same.symm.trans e) (by decide)⟩
    · have hil : i < last := by omega
      refine hop i hil o ho a W (h.pre hll) hF K (fun v W' hT => hK _ _ (ih _ _ _ (by rw [Array.size_setIfInBounds]; exact hsz) hf9 ?_))
      rw [hd i o ho hil]
      refine ⟨fun _ => hS _ _ (h.pre hll) hT.1, fun e => ?_, hdn, ?_, h.defers, fun t ht => ?_, fun _ j hj h4 => ?_⟩
      · rw [set_other last el, hll] at e; cases e
      · show (a.tmps.setIfInBounds _ _).size = _
        rw [Array.size_setIfInBounds]; exact h.size
      · show (a.tmps.setIfInBounds (d i) v).getD t undef = _
        rw [getD_set_other (ht i hil)]
        exact h.frame t ht
      · show V j ((a.tmps.setIfInBounds (d i) v).getD (d j) undef) W'
        by_cases e : i = j
        · subst e
          rw [getD_set_same (by rw [h.size]; exact hlt i hil)]
          exact hT.2
        · rw [getD_set_other (fun e2 => e (hinj i j hil hj e2))]
          rw [set_other j e] at h4
          exact hV _ _ _ _ (h.val hll j hj h4) hT.1
def dstL (ops : Array Oper) (ds : List Nat) (last : Nat) : Bool := ((List.range last).all fun i => ((ops[i]?).map (fun o => decide (o.dst = some (ds.getD i 0)))).getD true) && ((ops[last]?).map (fun o => decide (o.dst = none))).getD true
/-- these slots hold these values -/
def fillD (t : Array Value) : List Nat → List Value → Array Value
  | s :: ds, v :: vs => fillD (t.setIfInBounds s v) ds vs
  | _, _ => t
theorem fillD_size : ∀ (ds : List Nat) (vs : List Value) (t : Array Value), (fillD t ds vs).size = t.size
  | [], _, _ => rfl
  | _ :: _, [], _ => rfl
  | s :: ds, v :: vs, t => by rw [fillD, fillD_size ds vs, Array.size_setIfInBounds]
theorem fillD_out : ∀ (ds : List Nat) (vs : List Value) (t : Array Value) (i : Nat), i ∉ ds → (fillD t ds vs).getD i undef = t.getD i undef
  | [], _, _, _, _ => rfl
  | _ :: _, [], _, _, _ => rfl
  | s :: ds, v :: vs, t, i, h => by
    rw [fillD, fillD_out ds vs _ i (fun k => h (List.mem_cons_of_mem _ k))]
    exact getD_set_other (fun e => h (by rw [e]; exact List.mem_cons_self))
theorem fillD_in : ∀ (ds : List Nat) (vs : List Value) (t : Array Value), vs.length = ds.length → ds.Nodup → (∀ s ∈ ds, s < t.size) → ∀ k, k < ds.length → (fillD t ds vs).getD (ds.getD k 0) undef = vs.getD k undef
  | [], _, _, _, _, _, k, hk => absurd hk (by simp)
  | s :: ds, [], _, hl, _, _, _, _ => by simp at hl
  | s :: ds, v :: vs, t, hl, hn, hb, k, hk => by
    rw [List.nodup_cons] at hn
    rw [fillD]
    cases k with
    | zero =>
      show (fillD (t.setIfInBounds s v) ds vs).getD s undef = v
      rw [fillD_out ds vs _ s hn.1]
      exact getD_set_same (hb s List.mem_cons_self)
    | succ k =>
      exact fillD_in ds vs _ (by simpa using hl) hn.2 (fun x hx => by rw [Array.size_setIfInBounds]; exact hb x (List.mem_cons_of_mem _ hx)) k (by simpa using hk)
/-- THE REGION: what stands behind it are the old slots and some values in the region's own -/
theorem wp_region_last {id : Nat} {w0 : World} (V : Nat → Value → World → Prop) (ds : List Nat) (last m : Nat) (S : World → Prop) (S3 : List Value → World → Prop) (R : World → World → Prop) (hn : ops.size = last + 1) (hmt : a0.tmps.size = m) (hdl : ds.length = last) (hnd : ds.Nodup) (hlt : ∀ s ∈ ds, s < m)
    (hm : P.follows .mixedOrders = true) (hw : waitsB ops = true) (hdB : dstL ops ds last = true) (hnext : nextB ops last = true) (h0 : S w0.drew)
    (hV : ∀ i v W W', V i v W → R W W' → V i v W') (hS : ∀ W W', S W → R W W' → S W')
    (hop : ∀ i, i < last → StepV P ops Q a0 S (fun W v W' => R W W' ∧ V i v W') V (fun i => ds.getD i 0) last i)
    (hL : LastV P ops Q a0 S S3 V (fun i => ds.getD i 0) last)
    (hfin : ∀ (vs : List Value) (W : World), vs.length = last → S3 vs W → Q .normal ⟨fillD a0.tmps ds ((List.range last).map (fun i => vs.getD i undef)), a0.defers⟩ W) : (Code.region id ops true).wp P Q a0 w0 := by
  subst hmt hdl
  unfold dstL at hdB
  rw [Bool.and_eq_true] at hdB
  have hmem : ∀ i, i < ds.length → ds.getD i 0 ∈ ds := fun i hi => by
    have e : ds.getD i 0 = ds[i] := by simp [hi]
    rw [e]; exact List.getElem_mem hi
  refine wp_region_any hm (wpAny_last (V := V) (R := R) (S := S) (S3 := S3) (d := fun i => ds.getD i 0) (last := ds.length) (a0 := a0) hn (fun i o ho hi => ?_) (fun o ho => ?_) (fun i hi => hlt _ (hmem i hi)) (fun i j hi hj e => ?_) (fun l h1 h2 => all_listed hw l h1 h2) hnext hV hS hop hL (fun a W hS hsz hdf hfr => ?_) _ _ _ _ (by simp) ?_ ?_)
  · have h1 := List.all_eq_true.1 hdB.1 i (List.mem_range.2 hi)
    rw [ho] at h1
    exact of_decide_eq_true h1
  · have h1 := hdB.2
    rw [ho] at h1
    exact of_decide_eq_true h1
  · have e1 : ds.getD i 0 = ds[i] := by simp [hi]
    have e2 : ds.getD j 0 = ds[j] := by simp [hj]
    have e : ds.getD i 0 = ds.getD j 0 := e
    rw [e1, e2] at e
    have hp := List.pairwise_iff_getElem.1 hnd
    rcases Nat.lt_trichotomy i j with h | h | h
    · exact absurd e (hp i j hi hj h)
    · exact h
    · exact absurd e.symm (hp j i hj hi h)
  · obtain ⟨tm, df⟩ := a
    have hdf : df = a0.defers := hdf
    subst hdf
    have hsz : tm.size = a0.tmps.size := hsz
    have e : tm = fillD a0.tmps ds ((List.range ds.length).map (fun i => tm.getD (ds.getD i 0) undef)) := by
      apply array_ext_getD (by rw [fillD_size, hsz])
      intro i hi
      by_cases h : i ∈ ds
      · obtain ⟨k, hk, rfl⟩ := List.getElem_of_mem h
        have e1 : ds[k] = ds.getD k 0 := by simp [hk]
        rw [e1, fillD_in ds _ _ (by simp) hnd hlt k hk]
        simp [hk]
      · rw [fillD_out _ _ _ _ h]
        exact hfr i (fun j hj e => h (by rw [← e]; exact hmem j hj))
    have h9 := hfin ((List.range ds.length).map (fun i => tm.getD (ds.getD i 0) undef)) W (by simp) hS
    rw [← list_of_len ds.length _ (by simp), ← e] at h9
    exact h9
  · simp
  · refine ⟨fun _ => h0, fun e => ?_, fun i o ho e => ?_, rfl, rfl, fun _ _ => rfl, fun _ i hi e => ?_⟩
    all_goals (exfalso; revert e; simp [Array.getD]; try omega)
end
end Go.Proofs.Ws.rsl
/- A region that draws its order and whose values are all known, with its slots as a list. -/
namespace Go.Proofs.Ws.rsl
open Go
theorem wp_region_constD {P : Program} {ops : Array Oper} {Q : Exit → Act → World → Prop} {a0 : Act} {id : Nat} {w0 : World} (vals : List Value) (ds : List Nat) (S : World → Prop) (R : World → World → Prop) (n m : Nat)
    (hn : ops.size = n) (hvl : vals.length = n) (hdl : ds.length = n) (hmt : a0.tmps.size = m) (hnd : ds.Nodup) (hlt : ∀ s ∈ ds, s < m)
    (hm : P.follows .mixedOrders = true) (hw : waitsB ops = true) (hdB : dstB ops (fun i => ds.getD i 0) = true) (hR : ∀ W, R W W) (hT : ∀ W1 W2 W3, R W1 W2 → R W2 W3 → R W1 W3) (hS : ∀ W W', S W → R W W' → S W')
    (h0 : S w0.drew)
    (hop : ∀ i, i < n → StepAt P ops Q a0 S R (fun i v W => ∀ W', R W W' → v = vals.getD i undef) (fun i => ds.getD i 0) i)
    (hfin : ∀ W, S W → Q .normal ⟨fillD a0.tmps ds vals, a0.defers⟩ W) : (Code.region id ops true).wp P Q a0 w0 := by
  have hmem : ∀ i, i < n → ds.getD i 0 ∈ ds := fun i hi => by
    have e : ds.getD i 0 = ds[i]'(by omega) := by simp [show i < ds.length by omega]
    rw [e]; exact List.getElem_mem _
  refine wp_region_late (fun i v _ => v = vals.getD i undef) S R (fun i => ds.getD i 0) n m hn hmt hm hw hdB hR hT hS (fun i j hi hj e => ?_) (fun i hi => hlt _ (hmem i hi)) h0 hop (fun a W hSW hsz hdf hfr hv => ?_)
  · have e1 : ds.getD i 0 = ds[i]'(by omega) := by simp [show i < ds.length by omega]
    have e2 : ds.getD j 0 = ds[j]'(by omega) := by simp [show j < ds.length by omega]
    have e : ds.getD i 0 = ds.getD j 0 := e
    rw [e1, e2] at e
    have hp := List.pairwise_iff_getElem.1 hnd
    rcases Nat.lt_trichotomy i j with h | h | h
    · exact absurd e (hp i j (by omega) (by omega) h)
    · exact h
    · exact absurd e.symm (hp j i (by omega) (by omega) h)
  · obtain ⟨tm, df⟩ := a
    have hdf : df = a0.defers := hdf
    subst hdf
    have hsz : tm.size = m := hsz
    have e : tm = fillD a0.tmps ds vals := by
      apply array_ext_getD (by rw [fillD_size, hsz, hmt])
      intro i hi
      by_cases h : i ∈ ds
      · obtain ⟨k, hk, rfl⟩ := List.getElem_of_mem h
        have e1 : ds[k] = ds.getD k 0 := by simp [hk]
        rw [e1, fillD_in ds _ _ (by omega) hnd (fun s hs => by rw [hmt]; exact hlt s hs) k hk]
        exact hv k (by omega)
      · rw [fillD_out _ _ _ _ h]
        exact hfr i (fun j hj e => h (by rw [← e]; exact hmem j hj))
    subst e
    exact hfin W hSW
end Go.Proofs.Ws.rsl
/- A region that draws its order and whose values are all known: the operations that only move, choose or negate are checked by reckoning. -/
namespace Go.Proofs.Ws.rsl
open Go
def opArgs : Op → List Operand
  | .move x => [x]
  | .assign x => [x]
  | .pick c a b => [c, a, b]
  | .unOp .not _ x => [x]
  | _ => []
def pureV (o : Op) (ρ : Operand → Value) : Option Value :=
  match o with
  | .move x => some (ρ x)
  | .assign x => some (ρ x)
  | .pick c a b => match ρ c with
    | .bool true => some (ρ a)
    | .bool false => some (ρ b)
    | _ => none
  | .unOp .not _ x => match ρ x with
    | .bool b => some (.bool (!b))
    | _ => none
  | _ => none
theorem pureV_run {o : Oper} {ρ : Operand → Value} {v : Value} (h : pureV o.op ρ = some v) (P : Program) (W : World) : (execOp ρ o).run P W = .ok (.value v) W := by
  unfold execOp
  unfold pureV at h
  split at h
  · rename_i x e
    injection h with h
    subst h
    rw [e]; rfl
  · rename_i x e
    injection h with h
    subst h
    rw [e]; rfl
  · rename_i c a b e
    rw [e]
    split at h
    · rename_i hc
      injection h with h
      subst h
      simp [hc, asBool]
    · rename_i hc
      injection h with h
      subst h
      simp [hc, asBool]
    · cases h
  · rename_i t x e
    rw [e]
    split at h
    · rename_i b hb
      injection h with h
      subst h
      simp [hb, Op.unary]
    · cases h
  · cases h
/-- where a slot lies in the list -/
def placeOf : List Nat → Nat → Option Nat
  | [], _ => none
  | s :: ds, t => if s = t then some 0 else (placeOf ds t).map (· + 1)
theorem placeOf_some : ∀ {ds : List Nat} {t k : Nat}, placeOf ds t = some k → k < ds.length ∧ ds.getD k 0 = t
  | [], _, _, h => by cases h
  | s :: ds, t, k, h => by
    unfold placeOf at h
    split at h
    · rename_i e
      injection h with h
      subst h e
      exact ⟨by simp, rfl⟩
    · obtain ⟨j, hj, rfl⟩ := Option.map_eq_some_iff.1 h
      have := placeOf_some hj
      exact ⟨by simp only [List.length_cons]; omega, this.2⟩
theorem placeOf_none : ∀ {ds : List Nat} {t : Nat}, placeOf ds t = none → t ∉ ds
  | [], _, _ => by simp
  | s :: ds, t, h => by
    unfold placeOf at h
    split at h
    · cases h
    · rename_i e
      have h1 := placeOf_none (Option.map_eq_none_iff.1 h)
      intro h2
      rcases List.mem_cons.1 h2 with h3 | h3
      · exact e h3.symm
      · exact h1 h3
def slotV (t0 : Array Value) (vals : List Value) (t : Nat) : Option Nat → Value
  | some k => vals.getD k undef
  | none => t0.getD t undef
def rhoV (t0 : Array Value) (ds : List Nat) (vals : List Value) : Operand → Value
  | .tmp t => slotV t0 vals t (placeOf ds t)
  | .const v => v
  | .global g => .pointer (some ⟨g, 0, none⟩)
  | .func f => .func (.func f) #[] #[]
def waitsFor (o : Oper) (k : Nat) : Bool := o.after.toList.any fun e => Region.binds .any e && decide (e.on = k)
def slotOk (o : Oper) : Option Nat → Bool
  | some k => waitsFor o k
  | none => true
def argOk (ds : List Nat) (o : Oper) : Operand → Bool
  | .tmp t => slotOk o (placeOf ds t)
  | _ => true
def boolOf (v : Value) : Option Bool :=
  match v with
  | .bool b => some b
  | _ => none
def guardB (v : Value) (p : Bool) : Bool :=
  match v with
  | .bool b => b == p
  | _ => false
def pureAt (ops : Array Oper) (t0 : Array Value) (ds : List Nat) (vals : List Value) (i : Nat) : Option Value :=
  match ops[i]? with
  | none => none
  | some o => match o.guard with
    | none => if (opArgs o.op).all (argOk ds o) then pureV o.op (rhoV t0 ds vals) else none
    | some (g, p) => if waitsFor o g && decide (g < ds.length) then
        (if guardB (vals.getD g undef) p then (if (opArgs o.op).all (argOk ds o) then pureV o.op (rhoV t0 ds vals) else none) else some undef)
      else none
theorem pureV_congr {o : Op} {ρ ρ' : Operand → Value} (h : ∀ x ∈ opArgs o, ρ x = ρ' x) : pureV o ρ = pureV o ρ' := by
  cases o <;> try rfl
  case move x => exact congrArg some (h x (by simp [opArgs]))
  case assign x => exact congrArg some (h x (by simp [opArgs]))
  case pick c a b =>
    have h1 := h c (by simp [opArgs])
    have h2 := h a (by simp [opArgs])
    have h3 := h b (by simp [opArgs])
    simp only [pureV, h1, h2, h3]
  case unOp op t x =>
    cases op <;> try rfl
    have h1 := h x (by simp [opArgs])
    simp only [pureV, h1]
section
variable {P : Program} {ops : Array Oper} {Q : Exit → Act → World → Prop} {a0 : Act} {S : World → Prop} {R : World → World → Prop} {ds : List Nat} {vals : List Value}
theorem step_pure {n i : Nat} (hn : ops.size = n) (hdl : ds.length = n) (hdB : dstB ops (fun i => ds.getD i 0) = true) (hlt : ∀ s ∈ ds, s < a0.tmps.size) (hR : ∀ W, R W W)
    (hp : pureAt ops a0.tmps ds vals i = some (vals.getD i undef)) : StepAt P ops Q a0 S R (fun i v W => ∀ W', R W W' → v = vals.getD i undef) (fun i => ds.getD i 0) i := by
  intro o ho a W hS hsz hdf hfr hdep K hK
  have hdv : ∀ k, waitsFor o k = true → k < ds.length → a.tmps.getD (ds.getD k 0) undef = vals.getD k undef := fun k hk hkl => by
    unfold waitsFor at hk
    obtain ⟨e, he, hb⟩ := List.any_eq_true.1 hk
    rw [Bool.and_eq_true] at hb
    have hk2 := of_decide_eq_true hb.2
    have h1 := hdep e (by simpa using he) hb.1 (by rw [hk2]; omega) W (hR W)
    rw [hk2] at h1
    exact h1
  have hpure : (opArgs o.op).all (argOk ds o) = true → ∀ v, pureV o.op (rhoV a0.tmps ds vals) = some v → (execOp a.eval o).run P W = .ok (.value v) W := fun hall v hv => by
    apply pureV_run
    rw [← hv]
    refine pureV_congr fun x hx => ?_
    have hx := List.all_eq_true.1 hall x hx
    match x with
    | .tmp t =>
      show a.tmps.getD t undef = slotV a0.tmps vals t (placeOf ds t)
      have hx : slotOk o (placeOf ds t) = true := hx
      cases hpl : placeOf ds t with
      | some k =>
        rw [hpl] at hx
        have h1 := placeOf_some hpl
        have h2 := hdv k hx h1.1
        rw [h1.2] at h2
        exact h2
      | none =>
        refine hfr t fun j hj e => placeOf_none hpl ?_
        have hj2 : j < ds.length := by omega
        have e2 : ds.getD j 0 = ds[j] := by simp [hj2]
        have e : ds.getD j 0 = t := e
        rw [← e, e2]
        exact List.getElem_mem hj2
    | .const v => rfl
    | .global g => rfl
    | .func f => rfl
  unfold pureAt at hp
  rw [ho] at hp
  dsimp only at hp
  cases hg : o.guard with
  | none =>
    rw [hg] at hp
    dsimp only at hp
    split at hp
    · rename_i hall
      have hw : Region.wanted o (yielded ops a.tmps) = true := by unfold Region.wanted; rw [hg]
      rw [if_pos hw]
      unfold Oper.wp
      rw [hpure hall _ hp]
      exact hK _ W (hR W) (fun W' _ => rfl)
    · cases hp
  | some gp =>
    obtain ⟨g, p⟩ := gp
    rw [hg] at hp
    dsimp only at hp
    split at hp
    · rename_i hwg
      rw [Bool.and_eq_true] at hwg
      have hgl := of_decide_eq_true hwg.2
      have hgv := hdv g hwg.1 hgl
      have hy : yielded ops a.tmps g = boolOf (vals.getD g undef) := by
        unfold yielded
        have hgo : ops[g]? = some ops[g] := by simp [show g < ops.size by omega]
        have hgd := dst_of hdB g _ hgo
        rw [hgo]
        have hs : ds.getD g 0 < a.tmps.size := by
          rw [hsz]
          have e2 : ds.getD g 0 = ds[g] := by simp [hgl]
          rw [e2]
          exact hlt _ (List.getElem_mem hgl)
        have ht : a.tmps[ds.getD g 0]? = some (vals.getD g undef) := by
          rw [← hgv]
          generalize ds.getD g 0 = q at hs ⊢
          simp [Array.getD, hs]
        have hb2 : ((some ops[g]).bind (·.dst)).bind (a.tmps[·]?) = some (vals.getD g undef) := by
          show (ops[g].dst).bind (a.tmps[·]?) = _
          rw [hgd]
          exact ht
        rw [hb2]
        generalize vals.getD g undef = v
        cases v <;> rfl
      have hw : Region.wanted o (yielded ops a.tmps) = guardB (vals.getD g undef) p := by
        unfold Region.wanted
        rw [hg]
        dsimp only
        rw [hy]
        generalize vals.getD g undef = v
        cases v <;> rfl
      rw [hw]
      split at hp
      · rename_i hgb
        split at hp
        · rename_i hall
          rw [if_pos hgb]
          unfold Oper.wp
          rw [hpure hall _ hp]
          exact hK _ W (hR W) (fun W' _ => rfl)
        · cases hp
      · rename_i hgb
        rw [if_neg hgb]
        injection hp with hp
        exact hK _ W (hR W) (fun W' _ => by exact hp)
    · cases hp
/-- all operations but some -/
theorem lt_pure {n : Nat} {hard : List Nat} {C : Nat → Prop} {f g : Nat → Option Value} (h : ((List.range n).filter (fun i => !hard.contains i)).map f = ((List.range n).filter (fun i => !hard.contains i)).map g) (hC : ∀ i, i < n → f i = g i → C i) (hh : ∀ i ∈ hard, C i) : ∀ i, i < n → C i := fun i hi => by
  by_cases e : i ∈ hard
  · exact hh i e
  · refine hC i hi ?_
    have hm : i ∈ (List.range n).filter (fun i => !hard.contains i) := by
      rw [List.mem_filter]
      exact ⟨List.mem_range.2 hi, by simpa using e⟩
    exact (List.map_eq_map_iff.1 h) i hm
end
/-- the guard of an operation is known to hold -/
def guardOn (ds : List Nat) (vals : List Value) (o : Oper) : Bool :=
  match o.guard with
  | none => true
  | some (g, p) => waitsFor o g && decide (g < ds.length) && guardB (vals.getD g undef) p
/-- an operation with a step of its own -/
def StepO (P : Program) (Q : Exit → Act → World → Prop) (t0 : Array Value) (df : List Deferred) (m : Nat) (S : World → Prop) (R : World → World → Prop) (ds : List Nat) (vals : List Value) (o : Oper) (i : Nat) : Prop :=
  guardOn ds vals o = true ∧ ∀ (tm : Array Value) (W : World), S W → tm.size = m → (∀ t, placeOf ds t = none → tm.getD t undef = t0.getD t undef) →
    (∀ k, waitsFor o k = true → k < ds.length → tm.getD (ds.getD k 0) undef = vals.getD k undef) →
    ∀ K : Act → World → Prop, (∀ W', R W W' → K (Act.put ⟨tm, df⟩ o.dst (vals.getD i undef)) W') → Oper.wp P o ⟨tm, df⟩ W K Q
def StepH (P : Program) (ops : Array Oper) (Q : Exit → Act → World → Prop) (a0 : Act) (S : World → Prop) (R : World → World → Prop) (ds : List Nat) (vals : List Value) (i : Nat) : Prop :=
  ∀ o, ops[i]? = some o → StepO P Q a0.tmps a0.defers a0.tmps.size S R ds vals o i
/-- the operations with steps of their own, with their places -/
def hardL (hard : List Nat) : List Oper → Nat → List (Oper × Nat)
  | [], _ => []
  | o :: l, i => if hard.contains i then (o, i) :: hardL hard l (i + 1) else hardL hard l (i + 1)
def AllC (C : Oper → Nat → Prop) : List (Oper × Nat) → Prop
  | [] => True
  | (o, i) :: l => C o i ∧ AllC C l
theorem hardL_mem {hard : List Nat} : ∀ {l : List Oper} {j k : Nat} {o : Oper}, l[k]? = some o → j + k ∈ hard → (o, j + k) ∈ hardL hard l j
  | [], _, _, _, h, _ => by simp at h
  | x :: l, j, 0, o, h, hm => by
    have e : x = o := by simpa using h
    subst e
    unfold hardL
    rw [if_pos (by simpa using hm)]
    exact List.mem_cons_self
  | x :: l, j, k + 1, o, h, hm => by
    have ih := hardL_mem (hard := hard) (l := l) (j := j + 1) (k := k) (o := o) (by simpa using h) (by rw [show j + 1 + k = j + (k + 1) by omega]; exact hm)
    rw [show j + 1 + k = j + (k + 1) by omega] at ih
    unfold hardL
    split
    · exact List.mem_cons_of_mem _ ih
    · exact ih
theorem AllC.mem {C : Oper → Nat → Prop} : ∀ {l : List (Oper × Nat)}, AllC C l → ∀ x ∈ l, C x.1 x.2
  | [], _, x, hx => by cases hx
  | y :: l, h, x, hx => by
    rcases List.mem_cons.1 hx with e | e
    · rw [e]; exact h.1
    · exact AllC.mem h.2 x e
theorem not_in_of_place : ∀ {ds : List Nat} {t : Nat}, placeOf ds t = none → ∀ j, j < ds.length → ds.getD j 0 ≠ t := fun {ds t} h j hj e => by
  have e2 : ds.getD j 0 = ds[j] := by simp [hj]
  exact placeOf_none h (by rw [← e, e2]; exact List.getElem_mem hj)
section
variable {P : Program} {ops : Array Oper} {Q : Exit → Act → World → Prop} {a0 : Act} {S : World → Prop} {R : World → World → Prop} {ds : List Nat} {vals : List Value}
theorem step_hard {n i : Nat} (hn : ops.size = n) (hdl : ds.length = n) (hdB : dstB ops (fun i => ds.getD i 0) = true) (hlt : ∀ s ∈ ds, s < a0.tmps.size) (hR : ∀ W, R W W)
    (h : StepH P ops Q a0 S R ds vals i) : StepAt P ops Q a0 S R (fun i v W => ∀ W', R W W' → v = vals.getD i undef) (fun i => ds.getD i 0) i := by
  intro o ho a W hS hsz hdf hfr hdep K hK
  obtain ⟨hgo, hstep⟩ := h o ho
  obtain ⟨tm, df⟩ := a
  have hdf : df = a0.defers := hdf
  subst hdf
  have hdv : ∀ k, waitsFor o k = true → k < ds.length → tm.getD (ds.getD k 0) undef = vals.getD k undef := fun k hk hkl => by
    unfold waitsFor at hk
    obtain ⟨e, he, hb⟩ := List.any_eq_true.1 hk
    rw [Bool.and_eq_true] at hb
    have hk2 := of_decide_eq_true hb.2
    have h1 := hdep e (by simpa using he) hb.1 (by rw [hk2]; omega) W (hR W)
    rw [hk2] at h1
    exact h1
  have hw : Region.wanted o (yielded ops tm) = true := by
    unfold guardOn at hgo
    unfold Region.wanted
    cases hg : o.guard with
    | none => rfl
    | some gp =>
      obtain ⟨g, p⟩ := gp
      rw [hg] at hgo
      dsimp only at hgo ⊢
      rw [Bool.and_eq_true, Bool.and_eq_true] at hgo
      have hgl := of_decide_eq_true hgo.1.2
      have hgv := hdv g hgo.1.1 hgl
      have hy : yielded ops tm g = boolOf (vals.getD g undef) := by
        unfold yielded
        have hgo : ops[g]? = some ops[g] := by simp [show g < ops.size by omega]
        have hgd := dst_of hdB g _ hgo
        rw [hgo]
        have hs : ds.getD g 0 < tm.size := by
          have e2 : ds.getD g 0 = ds[g] := by simp [hgl]
          have h3 : tm.size = a0.tmps.size := hsz
          rw [e2, h3]
          exact hlt _ (List.getElem_mem hgl)
        have ht : tm[ds.getD g 0]? = some (vals.getD g undef) := by
          rw [← hgv]
          generalize ds.getD g 0 = q at hs ⊢
          simp [Array.getD, hs]
        have hb2 : ((some ops[g]).bind (·.dst)).bind (tm[·]?) = some (vals.getD g undef) := by
          show (ops[g].dst).bind (tm[·]?) = _
          rw [hgd]
          exact ht
        rw [hb2]
        generalize vals.getD g undef = v
        cases v <;> rfl
      rw [hy]
      have h2 := hgo.2
      revert h2
      generalize vals.getD g undef = v
      cases v <;> intro h2 <;> first | exact h2 | exact absurd h2 (by decide)
  rw [if_pos hw]
  exact hstep tm W hS hsz (fun t ht => hfr t (fun j hj => not_in_of_place ht j (by omega))) hdv K (fun W' hr => hK _ W' hr (fun _ _ => rfl))
end
/-- THE REGION: hard are the operations that need a step of their own -/
theorem wp_region_mix {P : Program} {ops : Array Oper} {Q : Exit → Act → World → Prop} {a0 : Act} {id : Nat} {w0 : World} (vals : List Value) (ds hard : List Nat) (S : World → Prop) (R : World → World → Prop) (n m : Nat)
    (hn : ops.size = n) (hvl : vals.length = n) (hdl : ds.length = n) (hmt : a0.tmps.size = m) (hnd : ds.Nodup) (hlt : ∀ s ∈ ds, s < m)
    (hm : P.follows .mixedOrders = true) (hw : waitsB ops = true) (hdB : dstB ops (fun i => ds.getD i 0) = true) (hR : ∀ W, R W W) (hT : ∀ W1 W2 W3, R W1 W2 → R W2 W3 → R W1 W3) (hS : ∀ W W', S W → R W W' → S W')
    (h0 : S w0.drew)
    (hpure : ((List.range n).filter (fun i => !hard.contains i)).map (pureAt ops a0.tmps ds vals) = ((List.range n).filter (fun i => !hard.contains i)).map (fun i => some (vals.getD i undef)))
    (df : List Deferred) (hdf : a0.defers = df) (hop : AllC (StepO P Q a0.tmps df m S R ds vals) (hardL hard ops.toList 0))
    (hfin : ∀ W, S W → Q .normal ⟨fillD a0.tmps ds vals, df⟩ W) : (Code.region id ops true).wp P Q a0 w0 := by
  subst hdf hmt
  exact wp_region_constD vals ds S R n _ hn hvl hdl rfl hnd hlt hm hw hdB hR hT hS h0
    (lt_pure hpure (fun i hi e => step_pure hn hdl hdB hlt hR e) (fun i hi => step_hard hn hdl hdB hlt hR (fun o ho => by
      have h9 := hardL_mem (hard := hard) (l := ops.toList) (j := 0) (k := i) (o := o) (by simpa using ho) (by rw [Nat.zero_add]; exact hi)
      rw [Nat.zero_add] at h9
      exact AllC.mem hop _ h9))) hfin
/-- a function with a body of its own -/
def entersB (P : Program) (n : FuncId) : Bool :=
  match P.funcs[n]? with
  | some fn => !(fn.name == "runtime.NumGoroutine") && fn.body.isSome
  | none => false
/-- A CALL whose callee and arguments are known: what it returns is its value -/
theorem wp_call {P : Program} {o : Oper} {a : Act} {W : World} {K : Act → World → Prop} {Q : Exit → Act → World → Prop} {f : Operand} {xs : Array Operand} {ts : Array TypeId} (n : FuncId) (first cap vs : Array Value) (post : Ending → World → Prop)
    (hop : o.op = .call { callee := .value f, args := xs, argTypes := ts }) (hf : a.eval f = .func (.func n) first cap) (hv : first.toList ++ xs.toList.map a.eval ++ cap.toList = vs.toList) (hn : entersB P n = true)
    (h : Calls P n vs W post) (hk : ∀ e W', post e W' → ∃ v, e = .returned v ∧ K (a.put o.dst v) W') : Oper.wp P o a W K Q := by
  unfold Oper.wp
  have hrun : (execOp a.eval o).run P W = .ok (.enter n vs) W := by
    unfold entersB at hn
    cases hfn : P.funcs[n]? with
    | none => rw [hfn] at hn; cases hn
    | some fn =>
      rw [hfn] at hn
      dsimp only at hn
      rw [Bool.and_eq_true] at hn
      obtain ⟨c, hb⟩ := Option.isSome_iff_exists.1 hn.2
      have h1 : fn.name ≠ "runtime.NumGoroutine" := by simpa using hn.1
      unfold execOp
      rw [hop]
      simp [resolve, Deferred.ofValue, invoke, callFunc, hf, hfn, h1, hb, Sem.run_bind, Result.andThen]
      apply Array.toList_inj.1
      rw [← hv]
      simp
  rw [hrun]
  show Calls P n vs W _
  refine h.mono fun e W' he => ?_
  obtain ⟨v, rfl, hk2⟩ := hk e W' he
  exact hk2
end Go.Proofs.Ws.rsl
/- A region that draws its order, some of whose values are not known ahead: what is known of these is closed under later worlds. -/
namespace Go.Proofs.Ws.rsl
open Go
def wildV (wild : List Nat) (vals : List Value) (Vw : Nat → Value → World → Prop) (i : Nat) (v : Value) (W : World) : Prop :=
  if wild.contains i then Vw i v W else v = vals.getD i undef
/-- an operation with a step of its own -/
def StepU (P : Program) (Q : Exit → Act → World → Prop) (t0 : Array Value) (df : List Deferred) (m : Nat) (S : World → Prop) (R : World → World → Prop) (ds : List Nat) (vals : List Value) (wild : List Nat) (Vw : Nat → Value → World → Prop) (o : Oper) (i : Nat) : Prop :=
  guardOn ds vals o = true ∧ ∀ (tm : Array Value) (W : World), S W → tm.size = m → (∀ t, placeOf ds t = none → tm.getD t undef = t0.getD t undef) →
    (∀ k, waitsFor o k = true → k < ds.length → wildV wild vals Vw k (tm.getD (ds.getD k 0) undef) W) →
    ∀ K : Act → World → Prop, (∀ v W', R W W' → wildV wild vals Vw i v W' → K (Act.put ⟨tm, df⟩ o.dst v) W') → Oper.wp P o ⟨tm, df⟩ W K Q
def guardKnown (ops : Array Oper) (wild : List Nat) : Bool := ops.toList.all fun o => match o.guard with | some (g, _) => !wild.contains g | none => true
section
variable {P : Program} {ops : Array Oper} {Q : Exit → Act → World → Prop} {a0 : Act} {S : World → Prop} {R : World → World → Prop} {ds : List Nat} {vals : List Value} {wild : List Nat} {Vw : Nat → Value → World → Prop}
theorem wildV_up (hVw : ∀ i v W W', Vw i v W → R W W' → Vw i v W') : ∀ i v W W', wildV wild vals Vw i v W → R W W' → wildV wild vals Vw i v W' := fun i v W W' h hr => by
  unfold wildV at h ⊢
  split
  · rename_i k; rw [if_pos k] at h; exact hVw i v W W' h hr
  · rename_i k; rw [if_neg k] at h; exact h
theorem wildV_known {i : Nat} {v : Value} {W : World} (hi : wild.contains i = false) (h : wildV wild vals Vw i v W) : v = vals.getD i undef := by
  unfold wildV at h
  rwa [if_neg (by rw [hi]; decide)] at h
theorem wildV_of {i : Nat} {W : World} (hi : wild.contains i = false) : wildV wild vals Vw i (vals.getD i undef) W := by
  unfold wildV
  rw [if_neg (by rw [hi]; decide)]
theorem wildV_wild {i : Nat} {v : Value} {W : World} (hi : wild.contains i = true) (h : wildV wild vals Vw i v W) : Vw i v W := by
  unfold wildV at h
  rwa [if_pos hi] at h
def wildPlace (wild : List Nat) : Option Nat → Bool
  | some k => wild.contains k
  | none => false
def wildArg (ds wild : List Nat) : Operand → Bool
  | .tmp t => wildPlace wild (placeOf ds t)
  | _ => false
def argsAt (ops : Array Oper) (i : Nat) : List Operand := ((ops[i]?).map (fun o => opArgs o.op)).getD []
/-- pure operations that wait for known values alone -/
def pureU (ops : Array Oper) (t0 : Array Value) (ds : List Nat) (vals : List Value) (wild : List Nat) (i : Nat) : Option Value :=
  if wild.contains i then none
  else if (argsAt ops i).any (wildArg ds wild) then none
  else pureAt ops t0 ds vals i
theorem yielded_known {n : Nat} (hn : ops.size = n) (hdl : ds.length = n) (hdB : dstB ops (fun i => ds.getD i 0) = true) (hlt : ∀ s ∈ ds, s < a0.tmps.size) {tm : Array Value} (hsz : tm.size = a0.tmps.size) {g : Nat} (hgl : g < ds.length) (hgv : tm.getD (ds.getD g 0) undef = vals.getD g undef) :
    yielded ops tm g = boolOf (vals.getD g undef) := by
  unfold yielded
  have hgo : ops[g]? = some ops[g] := by simp [show g < ops.size by omega]
  have hgd := dst_of hdB g _ hgo
  rw [hgo]
  have hs : ds.getD g 0 < tm.size := by
    have e2 : ds.getD g 0 = ds[g] := by simp [hgl]
    rw [e2, hsz]
    exact hlt _ (List.getElem_mem hgl)
  have ht : tm[ds.getD g 0]? = some (vals.getD g undef) := by
    rw [← hgv]
    generalize ds.getD g 0 = q at hs ⊢
    simp [Array.getD, hs]
  have hb2 : ((some ops[g]).bind (·.dst)).bind (tm[·]?) = some (vals.getD g undef) := by
    show (ops[g].dst).bind (tm[·]?) = _
    rw [hgd]
    exact ht
  rw [hb2]
  generalize vals.getD g undef = v
  cases v <;> rfl
theorem wanted_known {o : Oper} {tm : Array Value} {g : Nat} {p : Bool} (hg : o.guard = some (g, p)) (hy : yielded ops tm g = boolOf (vals.getD g undef)) : Region.wanted o (yielded ops tm) = guardB (vals.getD g undef) p := by
  unfold Region.wanted
  rw [hg]
  dsimp only
  rw [hy]
  generalize vals.getD g undef = v
  cases v <;> rfl
theorem waits_dep {n : Nat} (hn : ops.size = n) (hdl : ds.length = n) {o : Oper} {tm : Array Value} {W : World}
    (hdep : ∀ e ∈ o.after, Region.binds .any e = true → e.on < ops.size → ∀ W', R W W' → wildV wild vals Vw e.on (tm.getD (ds.getD e.on 0) undef) W') (hR : ∀ W, R W W) :
    ∀ k, waitsFor o k = true → k < ds.length → wildV wild vals Vw k (tm.getD (ds.getD k 0) undef) W := fun k hk hkl => by
  unfold waitsFor at hk
  obtain ⟨e, he, hb⟩ := List.any_eq_true.1 hk
  rw [Bool.and_eq_true] at hb
  have hk2 := of_decide_eq_true hb.2
  have h1 := hdep e (by simpa using he) hb.1 (by rw [hk2]; omega) W (hR W)
  rw [hk2] at h1
  exact h1
theorem step_pureU {n i : Nat} (hn : ops.size = n) (hdl : ds.length = n) (hdB : dstB ops (fun i => ds.getD i 0) = true) (hlt : ∀ s ∈ ds, s < a0.tmps.size) (hR : ∀ W, R W W) (hgk : guardKnown ops wild = true)
    (hp : pureU ops a0.tmps ds vals wild i = some (vals.getD i undef)) : StepAt P ops Q a0 S R (fun i v W => ∀ W', R W W' → wildV wild vals Vw i v W') (fun i => ds.getD i 0) i := by
  intro o ho a W hS hsz hdf hfr hdep K hK
  unfold pureU at hp
  have hwi : wild.contains i = false := by
    cases e : wild.contains i with
    | false => rfl
    | true => rw [e] at hp; cases hp
  have hargs : ¬ (opArgs o.op).any (wildArg ds wild) = true := fun e => by
    have e2 : argsAt ops i = opArgs o.op := by unfold argsAt; rw [ho]; rfl
    rw [e2, e, if_neg (by rw [hwi]; decide), if_pos rfl] at hp
    cases hp
  have hp : pureAt ops a0.tmps ds vals i = some (vals.getD i undef) := by
    have e2 : argsAt ops i = opArgs o.op := by unfold argsAt; rw [ho]; rfl
    rwa [e2, if_neg (by rw [hwi]; decide), if_neg hargs] at hp
  have hdv := waits_dep hn hdl hdep hR
  have hpure : (opArgs o.op).all (argOk ds o) = true → ∀ v, pureV o.op (rhoV a0.tmps ds vals) = some v → (execOp a.eval o).run P W = .ok (.value v) W := fun hall v hv => by
    apply pureV_run
    rw [← hv]
    refine pureV_congr fun x hx => ?_
    have hxa := List.all_eq_true.1 hall x hx
    match x, hxa with
    | .tmp t, hxa =>
      show a.tmps.getD t undef = slotV a0.tmps vals t (placeOf ds t)
      have hxa : slotOk o (placeOf ds t) = true := hxa
      cases hpl : placeOf ds t with
      | some k =>
        rw [hpl] at hxa
        have h1 := placeOf_some hpl
        have hkw : wild.contains k = false := by
          cases e : wild.contains k with
          | false => rfl
          | true =>
            exfalso
            apply hargs
            rw [List.any_eq_true]
            refine ⟨_, hx, ?_⟩
            show wildPlace wild (placeOf ds t) = true
            rw [hpl]
            exact e
        have h2 := wildV_known hkw (hdv k hxa h1.1)
        rw [h1.2] at h2
        exact h2
      | none => exact hfr t fun j hj e => not_in_of_place hpl j (by omega) e
    | .const v, _ => rfl
    | .global g, _ => rfl
    | .func f, _ => rfl
  have hKk : K (a.put o.dst (vals.getD i undef)) W := hK _ W (hR W) (fun _ _ => wildV_of hwi)
  unfold pureAt at hp
  rw [ho] at hp
  dsimp only at hp
  cases hg : o.guard with
  | none =>
    rw [hg] at hp
    dsimp only at hp
    split at hp
    · rename_i hall
      have hw : Region.wanted o (yielded ops a.tmps) = true := by unfold Region.wanted; rw [hg]
      rw [if_pos hw]
      unfold Oper.wp
      rw [hpure hall _ hp]
      exact hKk
    · cases hp
  | some gp =>
    obtain ⟨g, p⟩ := gp
    have hgw : wild.contains g = false := by
      have h1 := List.all_eq_true.1 hgk o (by
        exact List.mem_of_getElem? (l := ops.toList) (i := i) (a := o) (by simpa using ho))
      rw [hg] at h1
      simpa using h1
    rw [hg] at hp
    dsimp only at hp
    split at hp
    · rename_i hwg
      rw [Bool.and_eq_true] at hwg
      have hgl := of_decide_eq_true hwg.2
      have hgv := wildV_known hgw (hdv g hwg.1 hgl)
      rw [wanted_known hg (yielded_known hn hdl hdB hlt hsz hgl hgv)]
      split at hp
      · rename_i hgb
        split at hp
        · rename_i hall
          rw [if_pos hgb]
          unfold Oper.wp
          rw [hpure hall _ hp]
          exact hKk
        · cases hp
      · rename_i hgb
        rw [if_neg hgb]
        injection hp with hp
        rw [hp]
        exact hKk
    · cases hp
theorem step_hardU {n i : Nat} (hn : ops.size = n) (hdl : ds.length = n) (hdB : dstB ops (fun i => ds.getD i 0) = true) (hlt : ∀ s ∈ ds, s < a0.tmps.size) (hR : ∀ W, R W W) (hVw : ∀ i v W W', Vw i v W → R W W' → Vw i v W') (hgk : guardKnown ops wild = true)
    (h : ∀ o, ops[i]? = some o → StepU P Q a0.tmps a0.defers a0.tmps.size S R ds vals wild Vw o i) : StepAt P ops Q a0 S R (fun i v W => ∀ W', R W W' → wildV wild vals Vw i v W') (fun i => ds.getD i 0) i := by
  intro o ho a W hS hsz hdf hfr hdep K hK
  obtain ⟨hgo, hstep⟩ := h o ho
  obtain ⟨tm, df⟩ := a
  have hdf : df = a0.defers := hdf
  subst hdf
  have hdv := waits_dep hn hdl hdep hR
  have hw : Region.wanted o (yielded ops tm) = true := by
    cases hg : o.guard with
    | none => unfold Region.wanted; rw [hg]
    | some gp =>
      obtain ⟨g, p⟩ := gp
      have hgw : wild.contains g = false := by
        have h1 := List.all_eq_true.1 hgk o (by
          exact List.mem_of_getElem? (l := ops.toList) (i := i) (a := o) (by simpa using ho))
        rw [hg] at h1
        simpa using h1
      unfold guardOn at hgo
      rw [hg] at hgo
      dsimp only at hgo
      rw [Bool.and_eq_true, Bool.and_eq_true] at hgo
      have hgl := of_decide_eq_true hgo.1.2
      have hgv := wildV_known hgw (hdv g hgo.1.1 hgl)
      rw [wanted_known hg (yielded_known hn hdl hdB hlt hsz hgl hgv)]
      exact hgo.2
  rw [if_pos hw]
  exact hstep tm W hS hsz (fun t ht => hfr t (fun j hj => not_in_of_place ht j (by omega))) hdv K (fun v W' hr hv => hK v W' hr (fun W'' h2 => wildV_up hVw i v W' W'' hv h2))
end
/-- THE REGION -/
theorem wp_region_wild {P : Program} {ops : Array Oper} {Q : Exit → Act → World → Prop} {a0 : Act} {id : Nat} {w0 : World} (vals : List Value) (ds hard wild : List Nat) (Vw : Nat → Value → World → Prop) (S : World → Prop) (R : World → World → Prop) (n m : Nat)
    (hn : ops.size = n) (hdl : ds.length = n) (hmt : a0.tmps.size = m) (hnd : ds.Nodup) (hlt : ∀ s ∈ ds, s < m)
    (hm : P.follows .mixedOrders = true) (hw : waitsB ops = true) (hdB : dstB ops (fun i => ds.getD i 0) = true) (hgk : guardKnown ops wild = true) (hR : ∀ W, R W W) (hT : ∀ W1 W2 W3, R W1 W2 → R W2 W3 → R W1 W3) (hS : ∀ W W', S W → R W W' → S W')
    (hVw : ∀ i v W W', Vw i v W → R W W' → Vw i v W') (h0 : S w0.drew)
    (hpure : ((List.range n).filter (fun i => !hard.contains i)).map (pureU ops a0.tmps ds vals wild) = ((List.range n).filter (fun i => !hard.contains i)).map (fun i => some (vals.getD i undef)))
    (df : List Deferred) (hdf : a0.defers = df) (hop : AllC (StepU P Q a0.tmps df m S R ds vals wild Vw) (hardL hard ops.toList 0))
    (hfin : ∀ (f : Nat → Value) (W : World), S W → (∀ i, i < n → wild.contains i = true → Vw i (f i) W) → Q .normal ⟨fillD a0.tmps ds ((List.range n).map (fun i => if wild.contains i then f i else vals.getD i undef)), df⟩ W) : (Code.region id ops true).wp P Q a0 w0 := by
  subst hdf hmt
  have hmem : ∀ i, i < ds.length → ds.getD i 0 ∈ ds := fun i hi => by
    have e : ds.getD i 0 = ds[i] := by simp [hi]
    rw [e]; exact List.getElem_mem hi
  have hinj : ∀ i j, i < n → j < n → ds.getD i 0 = ds.getD j 0 → i = j := fun i j hi hj e => by
    have e1 : ds.getD i 0 = ds[i]'(by omega) := by simp [show i < ds.length by omega]
    have e2 : ds.getD j 0 = ds[j]'(by omega) := by simp [show j < ds.length by omega]
    rw [e1, e2] at e
    have hp := List.pairwise_iff_getElem.1 hnd
    rcases Nat.lt_trichotomy i j with h | h | h
    · exact absurd e (hp i j (by omega) (by omega) h)
    · exact h
    · exact absurd e.symm (hp j i (by omega) (by omega) h)
  refine wp_region_late (wildV wild vals Vw) S R (fun i => ds.getD i 0) n a0.tmps.size hn rfl hm hw hdB hR hT hS hinj (fun i hi => hlt _ (hmem i (by omega))) h0
    (lt_pure hpure (fun i hi e => step_pureU hn hdl hdB hlt hR hgk e) (fun i hi => step_hardU hn hdl hdB hlt hR hVw hgk (fun o ho => by
      have h9 := hardL_mem (hard := hard) (l := ops.toList) (j := 0) (k := i) (o := o) (by simpa using ho) (by rw [Nat.zero_add]; exact hi)
      rw [Nat.zero_add] at h9
      exact AllC.mem hop _ h9))) (fun a W hSW hsz hdf hfr hv => ?_)
  obtain ⟨tm, df⟩ := a
  have hdf : df = a0.defers := hdf
  subst hdf
  have hsz : tm.size = a0.tmps.size := hsz
  have e : tm = fillD a0.tmps ds ((List.range n).map (fun i => if wild.contains i then tm.getD (ds.getD i 0) undef else vals.getD i undef)) := by
    apply array_ext_getD (by rw [fillD_size, hsz])
    intro t _
    by_cases h : t ∈ ds
    · obtain ⟨k, hk, rfl⟩ := List.getElem_of_mem h
      have e1 : ds[k] = ds.getD k 0 := by simp [hk]
      rw [e1, fillD_in ds _ _ (by simp [hdl]) hnd hlt k hk]
      have h1 := hv k (by omega)
      have e3 : ((List.range n).map (fun i => if wild.contains i then tm.getD (ds.getD i 0) undef else vals.getD i undef)).getD k undef = if wild.contains k then tm.getD (ds.getD k 0) undef else vals.getD k undef := by
        rw [List.getD_eq_getElem?_getD, List.getElem?_map, List.getElem?_range (by omega)]
        rfl
      rw [e3]
      unfold wildV at h1
      split
      · rfl
      · rename_i h2
        rw [if_neg h2] at h1
        exact h1
    · rw [fillD_out _ _ _ _ h]
      exact hfr t (fun j hj e => h (by rw [← e]; exact hmem j (by omega)))
  have h9 := hfin (fun i => tm.getD (ds.getD i 0) undef) W hSW (fun i hi hw => wildV_wild hw (hv i hi))
  rw [← e] at h9
  exact h9
end Go.Proofs.Ws.rsl
