/- A region that draws its order, in which all values are known but those of three operations in a row: a slice is built, appended, and what comes is stored. -/
import Derived.Test.YtofclgapgjcflaaDoorEo
namespace Go.Proofs.Ws
open Go
theorem getq2 {l : Array Value} {i : Nat} {v : Value} (h : l.getD i undef = v) (hs : i < l.size) : l[i] = v := by
  simpa [Array.getD, hs] using h
/-- each operation but the last one has a later one that waits for it -/
def nextB (ops : Array Oper) (last : Nat) : Bool := (List.range last).all fun i => (List.range (last + 1)).any fun j => decide (i < j) && ((ops[j]?).map (fun o => o.after.any fun e => Region.binds .any e && (e.on == i))).getD false
/-- an operation waits for another one -/
def onB (ops : Array Oper) (j i : Nat) : Bool := ((ops[j]?).map (fun o => o.after.any fun e => Region.binds .any e && (e.on == i))).getD false
/-- what is listed waits for what is listed alone -/
def DownL (ops : Array Oper) (listed : Array Bool) : Prop := ∀ i o, ops[i]? = some o → listed.getD i false = true → ∀ e ∈ o.after, Region.binds .any e = true → listed.getD e.on false = true
theorem DownL.on {ops : Array Oper} {listed : Array Bool} {j i : Nat} (h : DownL ops listed) (hj : listed.getD j false = true) (hb : onB ops j i = true) : listed.getD i false = true := by
  unfold onB at hb
  cases ho : ops[j]? with
  | none => rw [ho] at hb; cases hb
  | some o =>
    rw [ho] at hb
    simp only [Option.map_some, Option.getD_some] at hb
    rw [Array.any_eq_true'] at hb
    obtain ⟨e, he, h2⟩ := hb
    rw [Bool.and_eq_true] at h2
    have h3 : e.on = i := by simpa using h2.2
    rw [← h3]
    exact h j o ho hj e he h2.1
theorem DownL.last {ops : Array Oper} {listed : Array Bool} {last : Nat} (h : DownL ops listed) (hn : nextB ops last = true) (hl : listed.getD last false = true) : ∀ k i, i ≤ last → last - i ≤ k → listed.getD i false = true
  | 0, i, hi, hk => by rw [show i = last by omega]; exact hl
  | k + 1, i, hi, hk => by
    by_cases e : i = last
    · rw [e]; exact hl
    · have h1 := List.all_eq_true.1 hn i (List.mem_range.2 (by omega))
      obtain ⟨j, hj, h2⟩ := List.any_eq_true.1 h1
      rw [Bool.and_eq_true] at h2
      have hij : i < j := of_decide_eq_true h2.1
      have hjl := List.mem_range.1 hj
      exact h.on (h.last hn hl k j (by omega) (by omega)) h2.2
theorem DownL.put {ops : Array Oper} {listed : Array Bool} {i : Nat} {o : Oper} (h : DownL ops listed) (hi : i < listed.size) (ho : ops[i]? = some o) (hd : ∀ e ∈ o.after, Region.binds .any e = true → listed.getD e.on false = true) : DownL ops (listed.setIfInBounds i true) := by
  have up : ∀ k, listed.getD k false = true → (listed.setIfInBounds i true).getD k false = true := fun k hk => by
    by_cases e : i = k
    · subst e; exact getD_set_same hi
    · rw [getD_set_other e]; exact hk
  intro j o2 ho2 hj e he hb
  by_cases e2 : i = j
  · subst e2
    obtain rfl := Option.some.inj (ho.symm.trans ho2)
    exact up _ (hd e he hb)
  · rw [getD_set_other e2] at hj
    exact up _ (h j o2 ho2 hj e he hb)
section
variable {P : Program} {ops : Array Oper} {Q : Exit → Act → World → Prop} {a0 : Act} {C S0 S3 : World → Prop} {S1 S2 : World → Value → Prop} {vals : List Value} {s0 b ap last : Nat}
structure PhInv (ops : Array Oper) (a0 : Act) (S0 S3 : World → Prop) (S1 S2 : World → Value → Prop) (vals : List Value) (s0 b ap last : Nat) (listed : Array Bool) (a : Act) (W : World) : Prop where
  p0 : listed.getD b false = false → S0 W
  p1 : listed.getD b false = true → listed.getD ap false = false → S1 W (a.tmps.getD (s0 + b) undef)
  p2 : listed.getD ap false = true → listed.getD last false = false → S2 W (a.tmps.getD (s0 + ap) undef)
  p3 : listed.getD last false = true → S3 W
  down : DownL ops listed
  size : a.tmps.size = a0.tmps.size
  defers : a.defers = a0.defers
  frame : ∀ t, (∀ j, j < last → s0 + j ≠ t) → a.tmps.getD t undef = a0.tmps.getD t undef
  val : ∀ i, i < last → i ≠ b → i ≠ ap → listed.getD i false = true → a.tmps.getD (s0 + i) undef = vals.getD i undef
theorem PhInv.common {listed : Array Bool} {a : Act} {W : World} (h : PhInv ops a0 S0 S3 S1 S2 vals s0 b ap last listed a W) (hl : listed.getD last false = false)
    (hC0 : ∀ W, S0 W → C W) (hC1 : ∀ W v, S1 W v → C W) (hC2 : ∀ W v, S2 W v → C W) : C W := by
  cases hb : listed.getD b false with
  | false => exact hC0 _ (h.p0 hb)
  | true =>
    cases hp : listed.getD ap false with
    | false => exact hC1 _ _ (h.p1 hb hp)
    | true => exact hC2 _ _ (h.p2 hp hl)
/-- what an operation of the region finds -/
def Finds (a0 : Act) (vals : List Value) (s0 b ap last : Nat) (o : Oper) (a : Act) : Prop :=
  a.tmps.size = a0.tmps.size ∧ a.defers = a0.defers ∧ (∀ t, (∀ j, j < last → s0 + j ≠ t) → a.tmps.getD t undef = a0.tmps.getD t undef) ∧
  (∀ e ∈ o.after, Region.binds .any e = true → e.on ≠ b → e.on ≠ ap → e.on < last → a.tmps.getD (s0 + e.on) undef = vals.getD e.on undef)
def StepPure (P : Program) (ops : Array Oper) (Q : Exit → Act → World → Prop) (a0 : Act) (C : World → Prop) (vals : List Value) (s0 b ap last i : Nat) : Prop :=
  ∀ o, ops[i]? = some o → ∀ (a : Act) (W : World), C W → Finds a0 vals s0 b ap last o a →
    ∀ K : Act → World → Prop, K (a.put o.dst (vals.getD i undef)) W → if Region.wanted o (yielded ops a.tmps) = true then Oper.wp P o a W K Q else K (a.put o.dst undef) W
def StepTo (P : Program) (ops : Array Oper) (Q : Exit → Act → World → Prop) (a0 : Act) (S : World → Act → Prop) (T : World → Value → Prop) (vals : List Value) (s0 b ap last i : Nat) : Prop :=
  ∀ o, ops[i]? = some o → ∀ (a : Act) (W : World), S W a → Finds a0 vals s0 b ap last o a →
    ∀ K : Act → World → Prop, (∀ v W', T W' v → K (a.put o.dst v) W') → if Region.wanted o (yielded ops a.tmps) = true then Oper.wp P o a W K Q else K (a.put o.dst undef) W
theorem wpAny_bas (hn : ops.size = last + 1) (hb : b < last) (hap : ap < last) (hba : b ≠ ap)
    (hd : ∀ i o, ops[i]? = some o → i < last → o.dst = some (s0 + i)) (hdl : ∀ o, ops[last]? = some o → o.dst = none) (hlt : s0 + last ≤ a0.tmps.size)
    (hall : ∀ listed : Array Bool, listed.size = ops.size → Region.ready .any ops listed = [] → ∀ i, i < ops.size → listed.getD i false = true)
    (hnext : nextB ops last = true) (hab : onB ops ap b = true)
    (hC0 : ∀ W, S0 W → C W) (hC1 : ∀ W v, S1 W v → C W) (hC2 : ∀ W v, S2 W v → C W)
    (hpure : ∀ i, i < last → i ≠ b → i ≠ ap → StepPure P ops Q a0 C vals s0 b ap last i)
    (hB : StepTo P ops Q a0 (fun W _ => S0 W) S1 vals s0 b ap last b)
    (hA : StepTo P ops Q a0 (fun W a => S1 W (a.tmps.getD (s0 + b) undef)) S2 vals s0 b ap last ap)
    (hL : StepTo P ops Q a0 (fun W a => S2 W (a.tmps.getD (s0 + ap) undef)) (fun W _ => S3 W) vals s0 b ap last last)
    (hfin : ∀ (a : Act) (W : World), S3 W → a.tmps.size = a0.tmps.size → a.defers = a0.defers → (∀ t, (∀ j, j < last → s0 + j ≠ t) → a.tmps.getD t undef = a0.tmps.getD t undef) → Q .normal a W) :
    ∀ (fuel : Nat) (listed : Array Bool) (a : Act) (W : World), listed.size = ops.size → (listed.toList.filter (fun b => !b)).length ≤ fuel → PhInv ops a0 S0 S3 S1 S2 vals s0 b ap last listed a W → wpAny P .any ops Q fuel listed a W := by
  intro fuel
  induction fuel with
  | zero =>
    intro listed a W hsz hf h
    have hl : ∀ i, i < ops.size → listed.getD i false = true := fun i hi => by
      have hi2 : i < listed.size := by omega
      have h0 : listed.toList.filter (fun b => !b) = [] := List.eq_nil_of_length_eq_zero (by omega)
      rw [List.filter_eq_nil_iff] at h0
      have := h0 listed[i] (by simp)
      simp [Array.getD, hi2]
      simpa using this
    refine ⟨?_, hfin a W (h.p3 (hl last (by omega))) h.size h.defers h.frame⟩
    rw [List.eq_nil_iff_forall_not_mem]
    intro i hi
    obtain ⟨h1, o, ho, _⟩ := mem_ready.1 hi
    have hi2 : i < ops.size := (Array.getElem?_eq_some_iff.1 ho).1
    have h2 := hl i hi2
    have hi3 : i < listed.size := by omega
    simp [Array.getD, hi3] at h1 h2
    rw [h1] at h2
    cases h2
  | succ fuel ih =>
    intro listed a W hsz hf h
    refine ⟨fun hr => hfin a W (h.p3 (hall listed hsz hr last (by omega))) h.size h.defers h.frame, fun i hi => ?_⟩
    obtain ⟨h1, o, ho, hbd⟩ := mem_ready.1 hi
    have hi2 : i < ops.size := (Array.getElem?_eq_some_iff.1 ho).1
    have hi3 : i < listed.size := by omega
    have hnl : listed.getD i false = false := by
      simp [Array.getD, hi3] at h1 ⊢
      exact h1
    have hll : listed.getD last false = false := by
      cases e : listed.getD last false with
      | false => rfl
      | true =>
        have := h.down.last hnext e last i (by omega) (by omega)
        rw [hnl] at this; cases this
    have hf9 : ((listed.setIfInBounds i true).toList.filter (fun b => !b)).length ≤ fuel := by
      have h9 := filter_set listed.toList i (by
        rw [Array.getElem?_toList, Array.getElem?_eq_getElem hi3]
        simp [Array.getD, hi3] at h1
        rw [h1])
      rw [Array.toList_setIfInBounds]
      omega
    have hdn := h.down.put hi3 ho hbd
    have hF : Finds a0 vals s0 b ap last o a := ⟨h.size, h.defers, h.frame, fun e he hbi h2 h3 h4 => h.val e.on h4 h2 h3 (hbd e he hbi)⟩
    have put_size : ∀ k v, (a.put (some k) v).tmps.size = a0.tmps.size := fun k v => by show (a.tmps.setIfInBounds _ _).size = _; rw [Array.size_setIfInBounds]; exact h.size
    have put_frame : ∀ k v, k < last → ∀ t, (∀ j, j < last → s0 + j ≠ t) → (a.put (some (s0 + k)) v).tmps.getD t undef = a0.tmps.getD t undef := fun k v hk t ht => by
      show (a.tmps.setIfInBounds (s0 + k) v).getD t undef = _
      rw [getD_set_other (ht k hk)]
      exact h.frame t ht
    have put_same : ∀ k v, k < last → (a.put (some (s0 + k)) v).tmps.getD (s0 + k) undef = v := fun k v hk => by
      show (a.tmps.setIfInBounds (s0 + k) v).getD (s0 + k) undef = v
      exact getD_set_same (by rw [h.size]; omega)
    have put_other : ∀ k j v, k ≠ j → (a.put (some (s0 + k)) v).tmps.getD (s0 + j) undef = a.tmps.getD (s0 + j) undef := fun k j v hk => by
      show (a.tmps.setIfInBounds (s0 + k) v).getD (s0 + j) undef = _
      exact getD_set_other (fun e => hk (Nat.add_left_cancel e))
    have set_same : (listed.setIfInBounds i true).getD i false = true := getD_set_same hi3
    have set_other : ∀ k, i ≠ k → (listed.setIfInBounds i true).getD k false = listed.getD k false := fun k hk => getD_set_other hk
    refine wpOp_step ho (fun K hK => ?_)
    by_cases el : i = last
    · subst el
      have hs := hL o ho a W (h.p2 (by
        have hx : listed.getD ap false = true := by
          have hall2 := hdn.last hnext set_same i ap (by omega) (by omega)
          rwa [set_other ap (by omega)] at hall2
        exact hx) hll) hF K
      refine hs (fun v W' hT => hK _ _ (ih _ _ _ (by rw [Array.size_setIfInBounds]; exact hsz) hf9 ?_))
      rw [hdl o ho]
      have hallL : ∀ j, j ≤ i → (listed.setIfInBounds i true).getD j false = true := fun j hj => hdn.last hnext set_same i j hj (by omega)
      refine ⟨fun e => ?_, fun _ e => ?_, fun _ e => ?_, fun _ => hT, hdn, h.size, h.defers, h.frame, fun j hj h2 h3 h4 => ?_⟩
      · rw [hallL b (by omega)] at e; cases e
      · rw [hallL ap (by omega)] at e; cases e
      · rw [set_same] at e; cases e
      · have hji : i ≠ j := fun e => Nat.lt_irrefl j (e ▸ hj)
        rw [set_other j hji] at h4
        exact h.val j hj h2 h3 h4
    · have hil : i < last := by omega
      have hds := hd i o ho hil
      by_cases eb : i = b
      · subst eb
        have hpn : listed.getD ap false = false := by
          cases e : listed.getD ap false with
          | false => rfl
          | true => have := h.down.on e hab; rw [hnl] at this; cases this
        refine hB o ho a W (h.p0 hnl) hF K (fun v W' hT => hK _ _ (ih _ _ _ (by rw [Array.size_setIfInBounds]; exact hsz) hf9 ?_))
        rw [hds]
        refine ⟨fun e => ?_, fun _ _ => ?_, fun e _ => ?_, fun e => ?_, hdn, put_size _ _, h.defers, put_frame i v hil, fun j hj h2 h3 h4 => ?_⟩
        · rw [set_same] at e; cases e
        · rw [put_same i v hil]; exact hT
        · rw [set_other ap hba, hpn] at e; cases e
        · rw [set_other last el, hll] at e; cases e
        · rw [set_other j (fun e => h2 e.symm)] at h4
          rw [put_other i j v (fun e => h2 e.symm)]
          exact h.val j hj h2 h3 h4
      · by_cases ea : i = ap
        · subst ea
          have hbt : listed.getD b false = true := by
            have := hdn.on set_same hab
            rwa [set_other b eb] at this
          refine hA o ho a W (h.p1 hbt hnl) hF K (fun v W' hT => hK _ _ (ih _ _ _ (by rw [Array.size_setIfInBounds]; exact hsz) hf9 ?_))
          rw [hds]
          refine ⟨fun e => ?_, fun _ e => ?_, fun _ _ => ?_, fun e => ?_, hdn, put_size _ _, h.defers, put_frame i v hil, fun j hj h2 h3 h4 => ?_⟩
          · rw [set_other b eb, hbt] at e; cases e
          · rw [set_same] at e; cases e
          · rw [put_same i v hil]; exact hT
          · rw [set_other last el, hll] at e; cases e
          · rw [set_other j (fun e => h3 e.symm)] at h4
            rw [put_other i j v (fun e => h3 e.symm)]
            exact h.val j hj h2 h3 h4
        · refine hpure i hil eb ea o ho a W (h.common hll hC0 hC1 hC2) hF K (hK _ _ (ih _ _ _ (by rw [Array.size_setIfInBounds]; exact hsz) hf9 ?_))
          rw [hds]
          refine ⟨fun e => ?_, fun e1 e2 => ?_, fun e1 e2 => ?_, fun e => ?_, hdn, put_size _ _, h.defers, put_frame i _ hil, fun j hj h2 h3 h4 => ?_⟩
          · rw [set_other b eb] at e; exact h.p0 e
          · rw [set_other b eb] at e1
            rw [set_other ap ea] at e2
            rw [put_other i b _ eb]
            exact h.p1 e1 e2
          · rw [set_other ap ea] at e1
            rw [put_other i ap _ ea]
            exact h.p2 e1 hll
          · rw [set_other last el, hll] at e; cases e
          · by_cases e : i = j
            · subst e; exact put_same i _ hil
            · rw [set_other j e] at h4
              rw [put_other i j _ e]
              exact h.val j hj h2 h3 h4
def dstsB (ops : Array Oper) (s0 last : Nat) : Bool := ((List.range last).all fun i => ((ops[i]?).map (fun o => decide (o.dst = some (s0 + i)))).getD true) && ((ops[last]?).map (fun o => decide (o.dst = none))).getD true
theorem list_of_len : ∀ (n : Nat) (l : List Value), l.length = n → l = (List.range n).map (fun i => l.getD i undef) := fun n l h => by
  apply List.ext_getElem (by simp [h])
  intro i h1 h2
  simp [h1]
/-- THE REGION: what stands behind it are the old slots and some values in the region's own -/
theorem wp_region_bas {id : Nat} {w0 : World} (vals : List Value) (s0 b ap last m : Nat) (C S0 S3 : World → Prop) (S1 S2 : World → Value → Prop) (hn : ops.size = last + 1) (hmt : a0.tmps.size = m) (hlt : s0 + last ≤ m) (hb : b < last) (hap : ap < last) (hba : b ≠ ap)
    (hm : P.follows .mixedOrders = true) (hw : waitsB ops = true) (hdB : dstsB ops s0 last = true) (hnext : nextB ops last = true) (hab : onB ops ap b = true) (h0 : S0 w0.drew)
    (hC0 : ∀ W, S0 W → C W) (hC1 : ∀ W v, S1 W v → C W) (hC2 : ∀ W v, S2 W v → C W)
    (hpure : ∀ i, i < last → i ≠ b → i ≠ ap → StepPure P ops Q a0 C vals s0 b ap last i)
    (hB : StepTo P ops Q a0 (fun W _ => S0 W) S1 vals s0 b ap last b)
    (hA : StepTo P ops Q a0 (fun W a => S1 W (a.tmps.getD (s0 + b) undef)) S2 vals s0 b ap last ap)
    (hL : StepTo P ops Q a0 (fun W a => S2 W (a.tmps.getD (s0 + ap) undef)) (fun W _ => S3 W) vals s0 b ap last last)
    (hfin : ∀ (vs : List Value) (W : World), vs.length = last → S3 W → Q .normal ⟨fillT a0.tmps s0 ((List.range last).map (fun i => vs.getD i undef)), a0.defers⟩ W) : (Code.region id ops true).wp P Q a0 w0 := by
  subst hmt
  unfold dstsB at hdB
  rw [Bool.and_eq_true] at hdB
  refine wp_region_any hm (wpAny_bas (vals := vals) (C := C) (S0 := S0) (S1 := S1) (S2 := S2) (S3 := S3) (s0 := s0) (b := b) (ap := ap) (last := last) (a0 := a0) hn hb hap hba (fun i o ho hi => ?_) (fun o ho => ?_) hlt (fun l h1 h2 => all_listed hw l h1 h2) hnext hab hC0 hC1 hC2 hpure hB hA hL (fun a W hS hsz hdf hfr => ?_) _ _ _ _ (by simp) ?_ ?_)
  · have h1 := List.all_eq_true.1 hdB.1 i (List.mem_range.2 hi)
    rw [ho] at h1
    exact of_decide_eq_true h1
  · have h1 := hdB.2
    rw [ho] at h1
    exact of_decide_eq_true h1
  · obtain ⟨tm, df⟩ := a
    have hdf : df = a0.defers := hdf
    subst hdf
    have hsz : tm.size = a0.tmps.size := hsz
    have e : tm = fillT a0.tmps s0 ((List.range last).map (fun i => tm.getD (s0 + i) undef)) := by
      apply array_ext_getD (by rw [fillT_size, hsz])
      intro i hi
      rw [fillT_at _ _ _ _ (by simp; omega)]
      by_cases h : s0 ≤ i ∧ i < s0 + last
      · rw [if_pos (by simp; omega)]
        have : i - s0 < last := by omega
        simp [this, show s0 + (i - s0) = i by omega]
      · rw [if_neg (by simp; omega)]
        exact hfr i (fun j hj e => h (by omega))
    have h9 := hfin ((List.range last).map (fun i => tm.getD (s0 + i) undef)) W (by simp) hS
    rw [← list_of_len last _ (by simp), ← e] at h9
    exact h9
  · simp
  · refine ⟨fun _ => h0, fun e => ?_, fun e => ?_, fun e => ?_, fun i o ho e => ?_, rfl, rfl, fun _ _ => rfl, fun i hi _ _ e => ?_⟩
    all_goals (exfalso; revert e; simp [Array.getD]; try omega)
end
end Go.Proofs.Ws
