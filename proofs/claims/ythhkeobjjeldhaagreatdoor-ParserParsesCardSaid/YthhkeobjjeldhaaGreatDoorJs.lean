/- Layer 6: texts joined: Ty Tz. -/
import Derived.Test.YthhkeobjjeldhaaGreatDoorJa
/- Layer 6 as plain mathematics: the reference's parser as a machine. -/
namespace Go.Proofs.Ws
open Go
structure RS where
  next : Nat
  nodes : List Nd
  bad : Nat
  e : Int
def RS.adv (s : RS) : RS := { s with next := s.next + 1 }
def lookR (E : PEnv) (s : RS) : ByteArray := E.ws.getD s.next ByteArray.empty
def failR (t : Nat) (e : Int) (s : RS) : RS := if s.e = 0 then { s with bad := t, e := e } else s
def RunR := RS → Option (Nat × RS)
def rbind (r : Option (Nat × RS)) (k : Nat → RunR) : Option (Nat × RS) := match r with | some p => k p.1 p.2 | none => none
def wantR (E : PEnv) (w : ByteArray) : RunR := fun s => if s.next ≤ 1000000 then some (0, (if lookR E s = w then s else failR s.next 4 s).adv) else none
def takesR (E : PEnv) (w : ByteArray) (s : RS) : Bool := decide (s.e = 0) && decide (lookR E s = w)
def listR (E : PEnv) (what : Nat) : List ByteArray := if what = 0 then E.F else if what = 1 then E.A else E.X
def nameR (E : PEnv) (what : Nat) (s : RS) : Nat × RS :=
  if nameOk (lookR E s) = false then (0, failR s.next 4 s) else
  if Lib.idxOfS (listR E what) (lookR E s) < 0 then (0, failR s.next 5 s) else ((Lib.idxOfS (listR E what) (lookR E s)).toNat, s.adv)
def numberR (E : PEnv) (s : RS) : Nat × RS :=
  if (decide ((lookR E s).size ≠ 0) && digN (headN (lookR E s))) = false then (0, failR s.next 4 s) else
  if 1 < (lookR E s).size ∨ 8 ≤ headN (lookR E s) - 48 then (0, failR s.next 2 s) else (headN (lookR E s) - 48, s.adv)
def nodeR (n : Nd) : RunR := fun s => if s.nodes.length ≤ 1000000 then some ((putNd s.nodes n).1, { s with nodes := (putNd s.nodes n).2 }) else none
def oneR (E : PEnv) (g : Nat) (s : RS) : Nat × RS := (g ||| 2 ^ (nameR E 1 s).1, if (nameR E 1 s).2.e = 0 ∧ g.testBit (nameR E 1 s).1 = true then failR s.next 7 (nameR E 1 s).2 else (nameR E 1 s).2)
def groupLR (E : PEnv) : Nat → Nat → RunR
  | 0, _ => fun _ => none
  | f + 1, g => fun s => if takesR E ⟨#[44]⟩ s = true then groupLR E f (oneR E g s.adv).1 (oneR E g s.adv).2 else some (g, s)
def groupR (E : PEnv) : RunR := fun s => groupLR E (E.ws.length + 2) (2 ^ (nameR E 1 s).1) (nameR E 1 s).2
def barR (E : PEnv) (F : RunR) : RunR := fun s => if takesR E ⟨#[124]⟩ s = true then F s.adv else nodeR ⟨1, 0, 0, 0, 0, 0⟩ s
/-- what stands behind the closing bracket, and the node -/
def closeR (E : PEnv) (R : RunR) (nd : Nat → Nd) : RunR := fun s => rbind (wantR E ⟨#[93]⟩ s) fun _ s => rbind (R s) fun x s => nodeR (nd x) s
def plainR (R : RunR) (op : Int) : RunR := fun s => rbind (R s.adv) fun x s => nodeR ⟨op, 0, 0, 0, x, 0⟩ s
def modalA (E : PEnv) (R : RunR) (op : Int) : RunR := fun s => rbind (wantR E ⟨#[91]⟩ s) fun _ s => closeR E R (fun x => ⟨op, ((nameR E 1 s).1 : Nat), 0, 0, x, 0⟩) (nameR E 1 s).2
def modalB (E : PEnv) (R F : RunR) : RunR := fun s => rbind (wantR E ⟨#[91]⟩ s) fun _ s => rbind (barR E F (nameR E 1 s).2) fun c s2 => closeR E R (fun x => ⟨14, ((nameR E 1 s).1 : Nat), 0, 0, c, x⟩) s2
def modalG (E : PEnv) (R : RunR) (op : Int) : RunR := fun s => rbind (wantR E ⟨#[91]⟩ s) fun _ s => rbind (groupR E s) fun g s => closeR E R (fun x => ⟨op, 0, 0, g, x, 0⟩) s
def modalC (E : PEnv) (R F : RunR) : RunR := fun s => rbind (wantR E ⟨#[91]⟩ s) fun _ s => rbind (groupR E s) fun g s => rbind (barR E F s) fun c s => closeR E R (fun x => ⟨13, 0, 0, g, c, x⟩) s
def updateR (E : PEnv) (R F : RunR) : RunR := fun s =>
  if takesR E ⟨#[33]⟩ s = true then rbind (F s.adv) fun c s => closeR E R (fun x => ⟨16, 0, 0, 0, c, x⟩) s
  else rbind (wantR E ⟨#[46]⟩ (nameR E 2 s).2) fun _ s2 => closeR E R (fun x => ⟨17, ((nameR E 2 s).1 : Nat), ((numberR E s2).1 : Nat), 0, x, 0⟩) (numberR E s2).2
def enclosedR (E : PEnv) (F : RunR) : RunR := fun s => rbind (F s.adv) fun x s => rbind (wantR E ⟨#[41]⟩ s) fun _ s => some (x, s)
def factR (E : PEnv) : RunR := fun s => nodeR ⟨3, ((nameR E 0 s).1 : Nat), 0, 0, 0, 0⟩ (nameR E 0 s).2
def preR (E : PEnv) (R F : RunR) : RunR := fun s =>
  if s.e ≠ 0 then some (0, s)
  else if lookR E s = ⟨#[126]⟩ then plainR R 4 s else if lookR E s = ⟨#[110, 101, 120, 116]⟩ then plainR R 18 s else if lookR E s = ⟨#[112, 114, 101, 118]⟩ then plainR R 20 s
  else if lookR E s = ⟨#[75]⟩ then modalA E R 9 s.adv else if lookR E s = ⟨#[77]⟩ then modalA E R 10 s.adv else if lookR E s = ⟨#[83]⟩ then modalA E R 15 s.adv
  else if lookR E s = ⟨#[66]⟩ then modalB E R F s.adv
  else if lookR E s = ⟨#[69]⟩ then modalG E R 11 s.adv else if lookR E s = ⟨#[68]⟩ then modalG E R 12 s.adv
  else if lookR E s = ⟨#[67]⟩ then modalC E R F s.adv
  else if lookR E s = ⟨#[91]⟩ then updateR E R F s.adv
  else if lookR E s = ⟨#[116, 114, 117, 101]⟩ then nodeR ⟨1, 0, 0, 0, 0, 0⟩ s.adv else if lookR E s = ⟨#[102, 97, 108, 115, 101]⟩ then nodeR ⟨2, 0, 0, 0, 0, 0⟩ s.adv
  else if lookR E s = ⟨#[40]⟩ then enclosedR E F s
  else factR E s
def leftR (E : PEnv) (w : ByteArray) (op : Int) (R : RunR) (L : Nat → RunR) (x : Nat) : RunR := fun s =>
  if takesR E w s = true then rbind (R s.adv) fun y s => rbind (nodeR ⟨op, 0, 0, 0, x, y⟩ s) fun k s => L k s else some (x, s)
def mR (E : PEnv) : Nat → Rule → RunR
  | 0, _ => fun _ => none
  | n + 1, .formula => fun s => rbind (mR E n .implies s) fun x s => mR E n (.iffL x) s
  | n + 1, .iffL x => leftR E ⟨#[60, 45, 62]⟩ 8 (mR E n .implies) (fun k => mR E n (.iffL k)) x
  | n + 1, .implies => fun s => rbind (mR E n .time s) fun x s => if takesR E ⟨#[45, 62]⟩ s = true then rbind (mR E n .implies s.adv) fun y s => nodeR ⟨7, 0, 0, 0, x, y⟩ s else some (x, s)
  | n + 1, .time => fun s => rbind (mR E n .or s) fun x s =>
    if takesR E ⟨#[117, 110, 116, 105, 108]⟩ s = true then rbind (mR E n .time s.adv) fun y s => nodeR ⟨19, 0, 0, 0, x, y⟩ s
    else if takesR E ⟨#[115, 105, 110, 99, 101]⟩ s = true then rbind (mR E n .time s.adv) fun y s => nodeR ⟨21, 0, 0, 0, x, y⟩ s
    else some (x, s)
  | n + 1, .or => fun s => rbind (mR E n .and s) fun x s => mR E n (.orL x) s
  | n + 1, .orL x => leftR E ⟨#[124]⟩ 6 (mR E n .and) (fun k => mR E n (.orL k)) x
  | n + 1, .and => fun s => rbind (mR E n .pre s) fun x s => mR E n (.andL x) s
  | n + 1, .andL x => leftR E ⟨#[38]⟩ 5 (mR E n .pre) (fun k => mR E n (.andL k)) x
  | n + 1, .pre => preR E (mR E n .pre) (mR E n .formula)
/- bounds of what comes out -/
theorem rbind_some {r : Option (Nat × RS)} {k : Nat → RunR} {p : Nat × RS} (h : rbind r k = some p) : ∃ x s, r = some (x, s) ∧ k x s = some p := by
  cases r with
  | none => exact absurd h (by simp [rbind])
  | some q => exact ⟨q.1, q.2, rfl, h⟩
theorem nodeR_some {n : Nd} {s s' : RS} {v : Nat} (h : nodeR n s = some (v, s')) : s.nodes.length ≤ 1000000 ∧ v = (putNd s.nodes n).1 ∧ s' = { s with nodes := (putNd s.nodes n).2 } := by
  unfold nodeR at h
  split at h
  · rename_i hl
    injection h with h
    injection h with h1 h2
    exact ⟨hl, h1.symm, h2.symm⟩
  · cases h
theorem putR_le (l : List Nd) (n : Nd) : (putNd l n).1 ≤ l.length := by
  unfold putNd
  split
  · exact List.idxOf_le_length
  · exact Nat.le_refl _
theorem putR_len (l : List Nd) (n : Nd) : (putNd l n).2.length ≤ l.length + 1 := by
  unfold putNd
  split
  · exact Nat.le_succ _
  · simp
theorem nodeR_le {n : Nd} {s s' : RS} {v : Nat} (h : nodeR n s = some (v, s')) : v ≤ 1000000 := by
  obtain ⟨h1, rfl, _⟩ := nodeR_some h
  exact Nat.le_trans (putR_le _ _) h1
def Rule.numR : Rule → Nat
  | .iffL x => x
  | .orL x => x
  | .andL x => x
  | _ => 0
def LeR (o : Option (Nat × RS)) : Prop := ∀ p, o = some p → p.1 ≤ 1000000
theorem LeR.node {n : Nd} {s : RS} : LeR (nodeR n s) := fun p h => nodeR_le (s' := p.2) h
theorem LeR.bind {a : Option (Nat × RS)} {k : Nat → RunR} (ha : LeR a) (hk : ∀ x s, x ≤ 1000000 → LeR (k x s)) : LeR (rbind a k) := fun p h => by
  obtain ⟨x, s, h1, h2⟩ := rbind_some h
  exact hk x s (ha _ h1) p h2
theorem LeR.bind' {a : Option (Nat × RS)} {k : Nat → RunR} (hk : ∀ x s, LeR (k x s)) : LeR (rbind a k) := fun p h => by
  obtain ⟨x, s, h1, h2⟩ := rbind_some h
  exact hk x s p h2
theorem LeR.some {x : Nat} {s : RS} (h : x ≤ 1000000) : LeR (Option.some (x, s)) := fun p hp => by injection hp with hp; rw [← hp]; exact h
theorem LeR.ite {c : Prop} [Decidable c] {a b : Option (Nat × RS)} (h1 : LeR a) (h2 : LeR b) : LeR (if c then a else b) := by split <;> assumption
theorem LeR.close {E : PEnv} {R : RunR} {nd : Nat → Nd} {s : RS} : LeR (closeR E R nd s) := LeR.bind' (fun _ _ => LeR.bind' (fun _ _ => LeR.node))
theorem LeR.left {E : PEnv} {w : ByteArray} {op : Int} {R : RunR} {L : Nat → RunR} {x : Nat} {s : RS} (hx : x ≤ 1000000) (hL : ∀ k s, k ≤ 1000000 → LeR (L k s)) : LeR (leftR E w op R L x s) :=
  LeR.ite (LeR.bind' (fun _y _s => LeR.bind LeR.node (fun k s hk => hL k s hk))) (LeR.some hx)
theorem LeR.pre {E : PEnv} {R F : RunR} (hF : ∀ s, LeR (F s)) (s : RS) : LeR (preR E R F s) := by
  have hp : ∀ op s, LeR (plainR R op s) := fun op s => LeR.bind' (fun x s => LeR.node)
  have ha : ∀ op s, LeR (modalA E R op s) := fun op s => LeR.bind' (fun x s => LeR.close)
  have hg : ∀ op s, LeR (modalG E R op s) := fun op s => LeR.bind' (fun x s => LeR.bind' (fun x s => LeR.close))
  have hb : ∀ s, LeR (modalB E R F s) := fun s => LeR.bind' (fun x s => LeR.bind' (fun x s => LeR.close))
  have hc : ∀ s, LeR (modalC E R F s) := fun s => LeR.bind' (fun x s => LeR.bind' (fun x s => LeR.bind' (fun x s => LeR.close)))
  have hu : ∀ s, LeR (updateR E R F s) := fun s => LeR.ite (LeR.bind' (fun x s => LeR.close)) (LeR.bind' (fun x s => LeR.close))
  have he : ∀ s, LeR (enclosedR E F s) := fun s => LeR.bind (hF _) (fun x s hx => LeR.bind' (fun _ s => LeR.some hx))
  have hf : ∀ s, LeR (factR E s) := fun s => LeR.node
  unfold preR
  exact LeR.ite (LeR.some (Nat.zero_le _)) (LeR.ite (hp _ _) (LeR.ite (hp _ _) (LeR.ite (hp _ _) (LeR.ite (ha _ _) (LeR.ite (ha _ _) (LeR.ite (ha _ _) (LeR.ite (hb _) (LeR.ite (hg _ _) (LeR.ite (hg _ _) (LeR.ite (hc _) (LeR.ite (hu _) (LeR.ite LeR.node (LeR.ite LeR.node (LeR.ite (he _) (hf _)))))))))))))))
theorem mR_le (E : PEnv) : ∀ (n : Nat) (rule : Rule) (s : RS), rule.numR ≤ 1000000 → LeR (mR E n rule s) := by
  intro n
  induction n with
  | zero => intro rule s _ p h; exact absurd h (by simp [mR])
  | succ n ih =>
    intro rule s hx
    cases rule with
    | formula => exact LeR.bind (ih .implies s (Nat.zero_le _)) (fun x s h => ih (.iffL x) s h)
    | or => exact LeR.bind (ih .and s (Nat.zero_le _)) (fun x s h => ih (.orL x) s h)
    | and => exact LeR.bind (ih .pre s (Nat.zero_le _)) (fun x s h => ih (.andL x) s h)
    | iffL x => exact LeR.left hx (fun k s h => ih (.iffL k) s h)
    | orL x => exact LeR.left hx (fun k s h => ih (.orL k) s h)
    | andL x => exact LeR.left hx (fun k s h => ih (.andL k) s h)
    | implies =>
      unfold mR
      exact LeR.bind (ih .time s (Nat.zero_le _)) (fun x s h => LeR.ite (LeR.bind' (fun y s => LeR.node)) (LeR.some h))
    | time =>
      unfold mR
      exact LeR.bind (ih .or s (Nat.zero_le _)) (fun x s h => LeR.ite (LeR.bind' (fun y s => LeR.node)) (LeR.ite (LeR.bind' (fun y s => LeR.node)) (LeR.some h)))
    | pre => exact LeR.pre (fun s => ih .formula s (Nat.zero_le _)) s
theorem idxR_lt (l : List ByteArray) (w : ByteArray) (h : ¬ Lib.idxOfS l w < 0) : (Lib.idxOfS l w).toNat < l.length := by
  by_cases hm : w ∈ l
  · obtain ⟨k, hk, e, _⟩ := idx_mem hm
    rw [e]; simpa using hk
  · rw [idx_miss hm] at h; omega
theorem nameR_lt (E : PEnv) (what : Nat) (s : RS) : (nameR E what s).1 < max 1 (listR E what).length := by
  unfold nameR
  split
  · show 0 < _; omega
  · split
    · show 0 < _; omega
    · rename_i h
      have := idxR_lt _ _ h
      show (Lib.idxOfS _ _).toNat < _
      omega
theorem agentR_lt {E : PEnv} (hA : E.A.length ≤ 4) (s : RS) : (nameR E 1 s).1 < 4 := by
  have := nameR_lt E 1 s
  have e : listR E 1 = E.A := rfl
  rw [e] at this
  omega
theorem powR_lt16 {a : Nat} (h : a < 4) : 2 ^ a < 16 := Nat.pow_lt_pow_right (a := 2) (by decide) h
theorem groupLR_lt {E : PEnv} (hA : E.A.length ≤ 4) : ∀ (n g : Nat) (s : RS) (p : Nat × RS), g < 16 → groupLR E n g s = some p → p.1 < 16 := by
  intro n
  induction n with
  | zero => intro g s p _ h; exact absurd h (by simp [groupLR])
  | succ n ih =>
    intro g s p hg h
    unfold groupLR at h
    split at h
    · exact ih _ _ p (Nat.or_lt_two_pow (n := 4) hg (powR_lt16 (agentR_lt hA _))) h
    · injection h with h; rw [← h]; exact hg
theorem groupR_lt {E : PEnv} (hA : E.A.length ≤ 4) {s : RS} {p : Nat × RS} (h : groupR E s = some p) : p.1 < 16 := groupLR_lt hA _ _ _ _ (powR_lt16 (agentR_lt hA _)) h
theorem numberR_lt (E : PEnv) (s : RS) : (numberR E s).1 < 8 := by
  unfold numberR
  split
  · show 0 < _; decide
  · split
    · show 0 < _; decide
    · rename_i h
      show headN _ - 48 < 8
      omega
end Go.Proofs.Ws
/- Layer 6 as plain mathematics: the reference's machine does what the parser over tokens says. -/
namespace Go.Proofs.Ws
open Go
def potR (E : PEnv) (s : RS) : Nat := s.nodes.length + s.next + 11 * (E.ws.length - s.next)
def absR (s : RS) : PSt := ⟨s.next, s.nodes⟩
def InR (E : PEnv) (m : Nat) (s : RS) : Prop := potR E s ≤ m
def SmR (E : PEnv) (m : Nat) (r : Option PRes) (p : Option (Nat × RS)) : Prop :=
  ∀ x, r = some x → ∃ v s', p = some (v, s') ∧ InR E m s' ∧ (match x with | .ok v0 s0 => v = v0 ∧ s'.e = 0 ∧ absR s' = s0 | .err t e => e ≠ 0 ∧ s'.e = e ∧ s'.bad = t)
def ErR (E : PEnv) (m : Nat) (s : RS) (p : Option (Nat × RS)) : Prop := ∃ v s', p = some (v, s') ∧ InR E m s' ∧ s'.e = s.e ∧ s'.bad = s.bad
theorem InR.mono {E : PEnv} {m m' : Nat} {s : RS} (h : InR E m s) (hm : m ≤ m') : InR E m' s := Nat.le_trans h hm
theorem InR.len {E : PEnv} {m : Nat} {s : RS} (h : InR E m s) : s.nodes.length ≤ m ∧ s.next ≤ m := by
  unfold InR potR at h
  omega
theorem InR.adv {E : PEnv} {m : Nat} {s : RS} (h : InR E m s) (hl : s.next < E.ws.length) : ∃ m', m = m' + 10 ∧ InR E m' s.adv := by
  unfold InR potR at h
  refine ⟨m - 10, by omega, ?_⟩
  show s.nodes.length + (s.next + 1) + 11 * (E.ws.length - (s.next + 1)) ≤ m - 10
  omega
theorem InR.adv1 {E : PEnv} {m : Nat} {s : RS} (h : InR E m s) : InR E (m + 1) s.adv := by
  unfold InR potR at h
  show s.nodes.length + (s.next + 1) + 11 * (E.ws.length - (s.next + 1)) ≤ m + 1
  omega
theorem InR.put {E : PEnv} {m : Nat} {s : RS} (h : InR E m s) (n : Nd) : InR E (m + 1) { s with nodes := (putNd s.nodes n).2 } := by
  have h3 := putR_len s.nodes n
  unfold InR potR at h
  show (putNd s.nodes n).2.length + s.next + 11 * (E.ws.length - s.next) ≤ m + 1
  omega
theorem failR_bad {t : Nat} {e : Int} {s : RS} (h : s.e ≠ 0) : failR t e s = s := by unfold failR; rw [if_neg h]
theorem failR_ok {t : Nat} {e : Int} {s : RS} (h : s.e = 0) : failR t e s = { s with bad := t, e := e } := by unfold failR; rw [if_pos h]
theorem InR.fail {E : PEnv} {m : Nat} {s : RS} (h : InR E m s) (t : Nat) (e : Int) : InR E m (failR t e s) := by
  unfold failR; split
  · exact h
  · exact h
theorem SmR.mono {E : PEnv} {m m' : Nat} {r : Option PRes} {p : Option (Nat × RS)} (h : SmR E m r p) (hm : m ≤ m') : SmR E m' r p := fun x hx => by
  obtain ⟨v, s', h1, h2, h3⟩ := h x hx
  exact ⟨v, s', h1, h2.mono hm, h3⟩
theorem ErR.mono {E : PEnv} {m m' : Nat} {s : RS} {p : Option (Nat × RS)} (h : ErR E m s p) (hm : m ≤ m') : ErR E m' s p := by
  obtain ⟨v, s', h1, h2, h3⟩ := h
  exact ⟨v, s', h1, h2.mono hm, h3⟩
theorem SmR.bind {E : PEnv} {m1 m : Nat} {a : Option PRes} {b : Option (Nat × RS)} {k : Nat → PSt → Option PRes} {k' : Nat → RunR} (h : SmR E m1 a b)
    (hk : ∀ v s, s.e = 0 → InR E m1 s → SmR E m (k v (absR s)) (k' v s)) (he : ∀ v s, s.e ≠ 0 → InR E m1 s → ErR E m s (k' v s)) : SmR E m (obind a k) (rbind b k') := by
  intro x hx
  cases a with
  | none => cases hx
  | some r =>
    obtain ⟨v, s', hb, hin, hm⟩ := h r rfl
    subst hb
    cases r with
    | ok v0 s0 =>
      obtain ⟨rfl, h0, rfl⟩ := hm
      exact hk v s' h0 hin x hx
    | err t e =>
      obtain ⟨hne, he1, hpo⟩ := hm
      obtain ⟨v2, s2, h2, hin2, he2, hpo2⟩ := he v s' (by rw [he1]; exact hne) hin
      injection hx with hx
      subst hx
      exact ⟨v2, s2, h2, hin2, hne, by rw [he2, he1], by rw [hpo2, hpo]⟩
theorem ErR.bind {E : PEnv} {m1 m : Nat} {s : RS} {b : Option (Nat × RS)} {k' : Nat → RunR} (h : ErR E m1 s b) (hs : s.e ≠ 0) (hk : ∀ v s1, s1.e ≠ 0 → InR E m1 s1 → ErR E m s1 (k' v s1)) : ErR E m s (rbind b k') := by
  obtain ⟨v, s1, rfl, h2, h3, h4⟩ := h
  obtain ⟨v2, s2, g1, g2, g3, g4⟩ := hk v s1 (by rw [h3]; exact hs) h2
  exact ⟨v2, s2, g1, g2, by rw [g3, h3], by rw [g4, h4]⟩
theorem SmR.ok {E : PEnv} {m v : Nat} {s : RS} (h0 : s.e = 0) (h : InR E m s) : SmR E m (some (.ok v (absR s))) (some (v, s)) := fun x hx => by
  injection hx with hx
  subst hx
  exact ⟨v, s, rfl, h, rfl, h0, rfl⟩
theorem ErR.some {E : PEnv} {m v : Nat} {s : RS} (h : InR E m s) : ErR E m s (Option.some (v, s)) := ⟨v, s, rfl, h, rfl, rfl⟩
theorem nodeR_eq {n : Nd} {s : RS} (h : s.nodes.length ≤ 1000000) : nodeR n s = some ((putNd s.nodes n).1, { s with nodes := (putNd s.nodes n).2 }) := by unfold nodeR; rw [if_pos h]
theorem SmR.add {E : PEnv} {m : Nat} {n : Nd} {s : RS} (h0 : s.e = 0) (h : InR E m s) (hm : m ≤ 1000000) : SmR E (m + 1) (some ((absR s).add n)) (nodeR n s) := fun x hx => by
  injection hx with hx
  subst hx
  rw [nodeR_eq (Nat.le_trans h.len.1 hm)]
  exact ⟨_, _, rfl, h.put n, rfl, h0, rfl⟩
theorem ErR.add {E : PEnv} {m : Nat} {n : Nd} {s : RS} (h : InR E m s) (hm : m ≤ 1000000) : ErR E (m + 1) s (nodeR n s) := by
  rw [nodeR_eq (Nat.le_trans h.len.1 hm)]
  exact ⟨_, _, rfl, h.put n, rfl, rfl⟩
theorem SmR.err {E : PEnv} {m v t : Nat} {e : Int} {s : RS} (h0 : s.e = 0) (h : InR E m s) (he : e ≠ 0) : SmR E m (some (.err t e)) (some (v, failR t e s)) := fun x hx => by
  injection hx with hx
  subst hx
  refine ⟨v, _, rfl, h.fail t e, he, ?_, ?_⟩
  · rw [failR_ok h0]
  · rw [failR_ok h0]
theorem takesR_bad {E : PEnv} {w : ByteArray} {s : RS} (h : s.e ≠ 0) : takesR E w s = false := by unfold takesR; rw [decide_eq_false h, Bool.false_and]
theorem takesR_ok {E : PEnv} {w : ByteArray} {s : RS} (h : s.e = 0) : takesR E w s = decide (tkP E (absR s) = w) := by unfold takesR; rw [decide_eq_true h, Bool.true_and]; rfl
theorem lookR_eq {E : PEnv} {s : RS} : lookR E s = tkP E (absR s) := rfl
theorem groupLR_bad {E : PEnv} {n g : Nat} {s : RS} (h : s.e ≠ 0) : groupLR E (n + 1) g s = some (g, s) := by
  unfold groupLR
  rw [takesR_bad h, if_neg (by decide)]
theorem leftR_bad {E : PEnv} {w : ByteArray} {op : Int} {R : RunR} {L : Nat → RunR} {x : Nat} {s : RS} (h : s.e ≠ 0) : leftR E w op R L x s = some (x, s) := by
  unfold leftR
  rw [takesR_bad h, if_neg (by decide)]
theorem nameR_in {E : PEnv} {what m : Nat} {s : RS} (he : s.e ≠ 0) (h : InR E m s) : InR E m (nameR E what s).2 ∧ (nameR E what s).2.e = s.e ∧ (nameR E what s).2.bad = s.bad := by
  unfold nameR
  rw [failR_bad he, failR_bad he]
  by_cases h1 : nameOk (lookR E s) = false
  · rw [if_pos h1]; exact ⟨h, rfl, rfl⟩
  · rw [if_neg h1]
    have hl : s.next < E.ws.length := tk_lt (s := absR s) rfl (fun hz => h1 (by
      unfold nameOk
      rw [lookR_eq, decide_eq_false (by rw [hz]; decide)]; rfl))
    obtain ⟨m', hm, ha⟩ := h.adv hl
    split
    · exact ⟨h, rfl, rfl⟩
    · exact ⟨ha.mono (by omega), rfl, rfl⟩
theorem numberR_in {E : PEnv} {m : Nat} {s : RS} (he : s.e ≠ 0) (h : InR E m s) : InR E m (numberR E s).2 ∧ (numberR E s).2.e = s.e ∧ (numberR E s).2.bad = s.bad := by
  unfold numberR
  rw [failR_bad he, failR_bad he]
  by_cases h1 : (decide ((lookR E s).size ≠ 0) && digN (headN (lookR E s))) = false
  · rw [if_pos h1]; exact ⟨h, rfl, rfl⟩
  · rw [if_neg h1]
    have hl : s.next < E.ws.length := tk_lt (s := absR s) rfl (fun hz => h1 (by rw [lookR_eq, decide_eq_false (by rw [hz]; decide)]; rfl))
    obtain ⟨m', hm, ha⟩ := h.adv hl
    split
    · exact ⟨h, rfl, rfl⟩
    · exact ⟨ha.mono (by omega), rfl, rfl⟩
def Rule.plusR : Rule → Nat
  | .iffL _ => 0
  | .orL _ => 0
  | .andL _ => 0
  | _ => 1
/-- two ways to go on, behind good and bad states -/
structure ContR (E : PEnv) (m m' : Nat) (k : PSt → Option PRes) (k' : RunR) : Prop where
  good : ∀ s : RS, s.e = 0 → InR E m s → SmR E m' (k (absR s)) (k' s)
  bad : ∀ s : RS, s.e ≠ 0 → InR E m s → ErR E m' s (k' s)
theorem ContR.mono {E : PEnv} {m m' n n' : Nat} {k : PSt → Option PRes} {k' : RunR} (h : ContR E m m' k k') (h1 : n ≤ m) (h2 : m' ≤ n') : ContR E n n' k k' :=
  ⟨fun s h0 hi => (h.good s h0 (hi.mono h1)).mono h2, fun s h0 hi => (h.bad s h0 (hi.mono h1)).mono h2⟩
theorem ContR.bind {E : PEnv} {m m1 m' : Nat} {a : PSt → Option PRes} {b : RunR} {k : Nat → PSt → Option PRes} {k' : Nat → RunR} (h : ContR E m m1 a b) (hk : ∀ v, ContR E m1 m' (k v) (k' v)) :
    ContR E m m' (fun s => obind (a s) k) (fun s => rbind (b s) k') :=
  ⟨fun s h0 hi => SmR.bind (h.good s h0 hi) (fun v t ht hin => (hk v).good t ht hin) (fun v t ht hin => (hk v).bad t ht hin), fun s h0 hi => ErR.bind (h.bad s h0 hi) h0 (fun v t ht hin => (hk v).bad t ht hin)⟩
theorem ContR.want {E : PEnv} {m m' : Nat} {w : ByteArray} {k : PSt → Option PRes} {k' : RunR} (_hw : w.size ≠ 0) (hm : m ≤ 1000000) (h : ContR E (m + 1) m' k k') : ContR E m m' (fun s => expectP E w s k) (fun s => rbind (wantR E w s) fun _ s => k' s) :=
  ⟨fun s h0 hi => by
    have e : wantR E w s = some (0, (if lookR E s = w then s else failR s.next 4 s).adv) := by unfold wantR; rw [if_pos (Nat.le_trans hi.len.2 hm)]
    show SmR E m' (expectP E w (absR s) k) (rbind (wantR E w s) fun _ s => k' s)
    rw [e]
    show SmR E m' (expectP E w (absR s) k) (k' (if lookR E s = w then s else failR s.next 4 s).adv)
    unfold expectP
    rw [lookR_eq]
    by_cases hc : tkP E (absR s) = w
    · rw [if_pos hc, if_pos hc]
      exact h.good s.adv h0 hi.adv1
    · rw [if_neg hc, if_neg hc]
      intro x hx
      injection hx with hx
      subst hx
      have hf := failR_ok (t := s.next) (e := 4) h0
      obtain ⟨v2, s2, h2, hin2, he2, hpo2⟩ := h.bad (failR s.next 4 s).adv (by rw [hf]; exact (by decide : (4 : Int) ≠ 0)) (hi.fail _ _).adv1
      exact ⟨v2, s2, h2, hin2, by decide, by rw [he2, hf]; rfl, by rw [hpo2, hf]; rfl⟩, fun s h0 hi => by
    have e : wantR E w s = some (0, (if lookR E s = w then s else failR s.next 4 s).adv) := by unfold wantR; rw [if_pos (Nat.le_trans hi.len.2 hm)]
    show ErR E m' s (rbind (wantR E w s) fun _ s => k' s)
    rw [e, failR_bad h0, ite_self]
    exact h.bad s.adv h0 hi.adv1⟩
theorem ContR.name {E : PEnv} {m what : Nat} : ContR E m m (fun s => some (nameP E what s)) (fun s => some (nameR E what s)) :=
  ⟨fun s h0 h => by
    show SmR E m (some (nameP E what (absR s))) (some (nameR E what s))
    unfold nameP nameR
    rw [lookR_eq]
    by_cases h1 : nameOk (tkP E (absR s)) = false
    · rw [if_pos h1, if_pos h1]; exact SmR.err h0 h (by decide)
    · rw [if_neg h1, if_neg h1]
      have hl : s.next < E.ws.length := tk_lt (s := absR s) rfl (fun hz => h1 (by
        unfold nameOk
        rw [decide_eq_false (by rw [hz]; decide)]; rfl))
      show SmR E m (some (if Lib.idxOfS (listR E what) (tkP E (absR s)) < 0 then _ else _)) _
      by_cases h2 : Lib.idxOfS (listR E what) (tkP E (absR s)) < 0
      · rw [if_pos h2, if_pos h2]; exact SmR.err h0 h (by decide)
      · rw [if_neg h2, if_neg h2]
        obtain ⟨m', hm, ha⟩ := h.adv hl
        exact SmR.ok (s := s.adv) h0 (ha.mono (by omega)), fun s h0 hi => by
    obtain ⟨h1, h2, h3⟩ := nameR_in (what := what) h0 hi
    exact ⟨_, _, rfl, h1, h2, h3⟩⟩
theorem ContR.number {E : PEnv} {m : Nat} : ContR E m m (fun s => some (numberP E s)) (fun s => some (numberR E s)) :=
  ⟨fun s h0 h => by
    show SmR E m (some (numberP E (absR s))) (some (numberR E s))
    unfold numberP numberR
    rw [lookR_eq]
    by_cases h1 : (decide ((tkP E (absR s)).size ≠ 0) && digN (headN (tkP E (absR s)))) = false
    · rw [if_pos h1, if_pos h1]; exact SmR.err h0 h (by decide)
    · rw [if_neg h1, if_neg h1]
      have hl : s.next < E.ws.length := tk_lt (s := absR s) rfl (fun hz => h1 (by rw [decide_eq_false (by rw [hz]; decide)]; rfl))
      by_cases h2 : 1 < (tkP E (absR s)).size ∨ 8 ≤ headN (tkP E (absR s)) - 48
      · rw [if_pos h2, if_pos h2]; exact SmR.err h0 h (by decide)
      · rw [if_neg h2, if_neg h2]
        obtain ⟨m', hm, ha⟩ := h.adv hl
        exact SmR.ok (s := s.adv) h0 (ha.mono (by omega)), fun s h0 hi => by
    obtain ⟨h1, h2, h3⟩ := numberR_in h0 hi
    exact ⟨_, _, rfl, h1, h2, h3⟩⟩
theorem ContR.agents {E : PEnv} {m : Nat} : ∀ (n g : Nat), ContR E m m (fun s => agentsL E n g s) (fun s => groupLR E (n + 1) g s) := by
  intro n
  induction n with
  | zero => exact fun g => ⟨fun s _ _ x hx => absurd hx (by simp [agentsL]), fun s h0 hi => by show ErR E m s (groupLR E 1 g s); rw [groupLR_bad h0]; exact ErR.some hi⟩
  | succ n ih =>
    intro g
    refine ⟨fun s h0 h => ?_, fun s h0 hi => by show ErR E m s (groupLR E (n + 1 + 1) g s); rw [groupLR_bad h0]; exact ErR.some hi⟩
    show SmR E m (agentsL E (n + 1) g (absR s)) (groupLR E (n + 1 + 1) g s)
    unfold agentsL groupLR
    rw [takesR_ok h0]
    by_cases hc : tkP E (absR s) = ⟨#[44]⟩
    · rw [if_pos hc, decide_eq_true hc, if_pos rfl]
      obtain ⟨m', hm, ha⟩ := h.adv (tk_lt hc (by decide))
      have ha2 := ha.mono (m' := m) (by omega)
      have key : SmR E m (obind (some (nameP E 1 (absR s.adv))) fun b s' => if g.testBit b = true then some (.err (s.next + 1) 7) else agentsL E n (g ||| 2 ^ b) s')
          (rbind (some (nameR E 1 s.adv)) fun b t => groupLR E (n + 1) (g ||| 2 ^ b) (if t.e = 0 ∧ g.testBit b = true then failR s.adv.next 7 t else t)) := by
        refine SmR.bind (ContR.name.good s.adv h0 ha2) ?_ ?_
        · intro v t ht hin
          by_cases hb : g.testBit v = true
          · rw [if_pos hb, if_pos ⟨ht, hb⟩]
            have hf : (failR s.adv.next 7 t).e = 7 := by rw [failR_ok ht]
            rw [groupLR_bad (by rw [hf]; decide)]
            exact SmR.err ht hin (by decide)
          · rw [if_neg hb, if_neg (fun h => hb h.2)]
            exact (ih _).good t ht hin
        · intro v t ht hin
          rw [if_neg (fun h => ht h.1), groupLR_bad ht]
          exact ErR.some hin
      exact key
    · rw [if_neg hc, decide_eq_false hc, if_neg (by decide)]
      exact SmR.ok h0 h
theorem ContR.add {E : PEnv} {m : Nat} {n : Nd} (hm : m ≤ 1000000) : ContR E m (m + 1) (fun s => some (s.add n)) (fun s => nodeR n s) :=
  ⟨fun _ h0 hi => SmR.add h0 hi hm, fun _ _ hi => ErR.add hi hm⟩
theorem ContR.ok {E : PEnv} {m v : Nat} : ContR E m m (fun s => some (.ok v s)) (fun s => some (v, s)) := ⟨fun _ h0 hi => SmR.ok h0 hi, fun _ _ hi => ErR.some hi⟩
/-- one token is read -/
theorem ContR.adv {E : PEnv} {m m' : Nat} {w : ByteArray} {a b : PSt → Option PRes} {a' b' : RunR} (hw : w.size ≠ 0) (ha : ∀ m1, m = m1 + 10 → ContR E m1 m' a a') (hb : ContR E m m' b b') :
    ContR E m m' (fun s => if tkP E s = w then a s.adv else b s) (fun s => if takesR E w s = true then a' s.adv else b' s) :=
  ⟨fun s h0 hi => by
    show SmR E m' (if tkP E (absR s) = w then a (absR s).adv else b (absR s)) (if takesR E w s = true then a' s.adv else b' s)
    rw [takesR_ok h0]
    by_cases hc : tkP E (absR s) = w
    · rw [if_pos hc, decide_eq_true hc, if_pos rfl]
      obtain ⟨m1, h1, h2⟩ := hi.adv (tk_lt hc hw)
      exact (ha m1 h1).good s.adv h0 h2
    · rw [if_neg hc, decide_eq_false hc, if_neg (by decide)]
      exact hb.good s h0 hi, fun s h0 hi => by
    show ErR E m' s (if takesR E w s = true then a' s.adv else b' s)
    rw [takesR_bad h0, if_neg (by decide)]
    exact hb.bad s h0 hi⟩
theorem ContR.left {E : PEnv} {w : ByteArray} {op : Int} {R : RunR} {L : Nat → RunR} {x m : Nat} {rP : PSt → Option PRes} {LP : Nat → PSt → Option PRes} (hw : w.size ≠ 0) (hm : m ≤ 500000)
    (hR : ∀ m, m + 1 ≤ 500000 → ContR E m (m + 1) rP R) (hL : ∀ k, ContR E m m (LP k) (L k)) :
    ContR E m m (fun s => if tkP E s = w then obind (rP s.adv) fun y s => obind (some (s.add ⟨op, 0, 0, 0, x, y⟩)) fun k s => LP k s else some (.ok x s)) (leftR E w op R L x) :=
  ContR.adv (a := fun s => obind (rP s) fun y s => obind (some (s.add ⟨op, 0, 0, 0, x, y⟩)) fun k s => LP k s) (a' := fun s => rbind (R s) fun y s => rbind (nodeR ⟨op, 0, 0, 0, x, y⟩ s) fun k s => L k s) hw
    (fun m1 h1 => ContR.bind (hR m1 (by omega)) (fun y => ContR.bind (ContR.add (by omega)) (fun k => (hL k).mono (by omega) (Nat.le_refl _)))) ContR.ok
theorem badR_pre {E : PEnv} {R F : RunR} {m : Nat} {s : RS} (he : s.e ≠ 0) (h : InR E m s) : ErR E (m + 1) s (preR E R F s) := by
  unfold preR
  rw [if_pos he]
  exact (ErR.some h).mono (Nat.le_succ _)
theorem badR_and {E : PEnv} {n m : Nat} {s : RS} (he : s.e ≠ 0) (h : InR E m s) : ErR E (m + 1) s (mR E (n + 2) .and s) :=
  ErR.bind (badR_pre he h) he (fun v s1 he1 h1 => by
    show ErR E _ s1 (leftR E _ _ _ _ _ _)
    rw [leftR_bad he1]; exact ErR.some h1)
theorem badR_or {E : PEnv} {n m : Nat} {s : RS} (he : s.e ≠ 0) (h : InR E m s) : ErR E (m + 1) s (mR E (n + 3) .or s) :=
  ErR.bind (badR_and he h) he (fun v s1 he1 h1 => by
    show ErR E _ s1 (leftR E _ _ _ _ _ _)
    rw [leftR_bad he1]; exact ErR.some h1)
theorem badR_time {E : PEnv} {n m : Nat} {s : RS} (he : s.e ≠ 0) (h : InR E m s) : ErR E (m + 1) s (mR E (n + 4) .time s) := by
  unfold mR
  exact ErR.bind (badR_or he h) he (fun v s1 he1 h1 => by
    rw [takesR_bad he1, takesR_bad he1, if_neg (by decide), if_neg (by decide)]; exact ErR.some h1)
theorem badR_implies {E : PEnv} {n m : Nat} {s : RS} (he : s.e ≠ 0) (h : InR E m s) : ErR E (m + 1) s (mR E (n + 5) .implies s) := by
  unfold mR
  exact ErR.bind (badR_time he h) he (fun v s1 he1 h1 => by
    rw [takesR_bad he1, if_neg (by decide)]; exact ErR.some h1)
theorem badR_formula {E : PEnv} {n m : Nat} {s : RS} (he : s.e ≠ 0) (h : InR E m s) : ErR E (m + 1) s (mR E (n + 6) .formula s) :=
  ErR.bind (badR_implies he h) he (fun v s1 he1 h1 => by
    show ErR E _ s1 (leftR E _ _ _ _ _ _)
    rw [leftR_bad he1]; exact ErR.some h1)
theorem run_simR (E : PEnv) : ∀ (n : Nat) (rule : Rule) (m : Nat), m + rule.plusR ≤ 500000 → ContR E m (m + rule.plusR) (runP E n rule) (mR E (n + 7) rule) := by
  intro n
  induction n with
  | zero =>
    intro rule m hm
    refine ⟨fun s _ _ x hx => absurd hx (by simp [runP]), fun s h0 hi => ?_⟩
    cases rule with
    | formula => exact badR_formula (n := 1) h0 hi
    | implies => exact badR_implies (n := 2) h0 hi
    | time => exact badR_time (n := 3) h0 hi
    | or => exact badR_or (n := 4) h0 hi
    | and => exact badR_and (n := 5) h0 hi
    | pre => exact badR_pre h0 hi
    | iffL x => show ErR E m s (leftR E _ _ _ _ _ _); rw [leftR_bad h0]; exact ErR.some hi
    | orL x => show ErR E m s (leftR E _ _ _ _ _ _); rw [leftR_bad h0]; exact ErR.some hi
    | andL x => show ErR E m s (leftR E _ _ _ _ _ _); rw [leftR_bad h0]; exact ErR.some hi
  | succ n ih =>
    intro rule m hm
    have hr : ∀ (r : Rule), r.plusR = 1 → ∀ m, m + 1 ≤ 500000 → ContR E m (m + 1) (runP E n r) (mR E (n + 7) r) := fun r h m hm => by
      have := ih r m (by rw [h]; exact hm)
      rw [h] at this
      exact this
    have hl : ∀ (r : Rule), r.plusR = 0 → ∀ m, m ≤ 500000 → ContR E m m (runP E n r) (mR E (n + 7) r) := fun r h m hm => by
      have := ih r m (by rw [h]; exact hm)
      rw [h] at this
      exact this
    cases rule with
    | formula => exact ContR.bind (hr .implies rfl m hm) (fun x => hl (.iffL x) rfl (m + 1) hm)
    | or => exact ContR.bind (hr .and rfl m hm) (fun x => hl (.orL x) rfl (m + 1) hm)
    | and => exact ContR.bind (hr .pre rfl m hm) (fun x => hl (.andL x) rfl (m + 1) hm)
    | iffL x => exact ContR.left (rP := runP E n .implies) (LP := fun k => runP E n (.iffL k)) (by decide) hm (hr .implies rfl) (fun k => hl (.iffL k) rfl m hm)
    | orL x => exact ContR.left (rP := runP E n .and) (LP := fun k => runP E n (.orL k)) (by decide) hm (hr .and rfl) (fun k => hl (.orL k) rfl m hm)
    | andL x => exact ContR.left (rP := runP E n .pre) (LP := fun k => runP E n (.andL k)) (by decide) hm (hr .pre rfl) (fun k => hl (.andL k) rfl m hm)
    | implies =>
      have hm' : m + 1 ≤ 500000 := hm
      have two : ∀ x : Nat, ContR E (m + 1) (m + 1) (fun s => if tkP E s = ⟨#[45, 62]⟩ then obind (runP E n .implies s.adv) fun y s => some (s.add ⟨7, 0, 0, 0, x, y⟩) else some (.ok x s))
          (fun s => if takesR E ⟨#[45, 62]⟩ s = true then rbind (mR E (n + 7) .implies s.adv) fun y s => nodeR ⟨7, 0, 0, 0, x, y⟩ s else some (x, s)) := fun x =>
        ContR.adv (a := fun s => obind (runP E n .implies s) fun y s => some (s.add ⟨7, 0, 0, 0, x, y⟩)) (a' := fun s => rbind (mR E (n + 7) .implies s) fun y s => nodeR ⟨7, 0, 0, 0, x, y⟩ s) (by decide)
          (fun m1 h1 => (ContR.bind (hr .implies rfl m1 (by omega)) (fun y => ContR.add (by omega))).mono (Nat.le_refl _) (by omega)) ContR.ok
      exact ContR.bind (hr .time rfl m hm) two
    | time =>
      have hm' : m + 1 ≤ 500000 := hm
      have half : ∀ (op : Int) (x m1 : Nat), m + 1 = m1 + 10 → ContR E m1 (m + 1) (fun s => obind (runP E n .time s) fun y s => some (s.add ⟨op, 0, 0, 0, x, y⟩)) (fun s => rbind (mR E (n + 7) .time s) fun y s => nodeR ⟨op, 0, 0, 0, x, y⟩ s) :=
        fun op x m1 h1 => (ContR.bind (hr .time rfl m1 (by omega)) (fun y => ContR.add (by omega))).mono (Nat.le_refl _) (by omega)
      have two : ∀ x : Nat, ContR E (m + 1) (m + 1) (fun s => if tkP E s = ⟨#[117, 110, 116, 105, 108]⟩ then obind (runP E n .time s.adv) fun y s => some (s.add ⟨19, 0, 0, 0, x, y⟩) else if tkP E s = ⟨#[115, 105, 110, 99, 101]⟩ then obind (runP E n .time s.adv) fun y s => some (s.add ⟨21, 0, 0, 0, x, y⟩) else some (.ok x s))
          (fun s => if takesR E ⟨#[117, 110, 116, 105, 108]⟩ s = true then rbind (mR E (n + 7) .time s.adv) fun y s => nodeR ⟨19, 0, 0, 0, x, y⟩ s else if takesR E ⟨#[115, 105, 110, 99, 101]⟩ s = true then rbind (mR E (n + 7) .time s.adv) fun y s => nodeR ⟨21, 0, 0, 0, x, y⟩ s else some (x, s)) := fun x =>
        ContR.adv (a := fun s => obind (runP E n .time s) fun y s => some (s.add ⟨19, 0, 0, 0, x, y⟩)) (a' := fun s => rbind (mR E (n + 7) .time s) fun y s => nodeR ⟨19, 0, 0, 0, x, y⟩ s) (by decide) (half 19 x)
          (ContR.adv (a := fun s => obind (runP E n .time s) fun y s => some (s.add ⟨21, 0, 0, 0, x, y⟩)) (a' := fun s => rbind (mR E (n + 7) .time s) fun y s => nodeR ⟨21, 0, 0, 0, x, y⟩ s) (by decide) (half 21 x) ContR.ok)
      exact ContR.bind (hr .or rfl m hm) two
    | pre =>
      have hm' : m + 1 ≤ 500000 := hm
      have R := hr .pre rfl
      have F := hr .formula rfl
      have un : ∀ (m1 : Nat) (nd : Nat → Nd), m1 + 2 ≤ 500000 → ContR E m1 (m1 + 2) (fun s => obind (runP E n .pre s) fun x s => some (s.add (nd x))) (fun s => rbind (mR E (n + 7) .pre s) fun x s => nodeR (nd x) s) :=
        fun m1 nd h => ContR.bind (R m1 (by omega)) (fun x => ContR.add (by omega))
      have cl : ∀ (m1 : Nat) (nd : Nat → Nd), m1 + 3 ≤ 500000 → ContR E m1 (m1 + 3) (fun s => expectP E ⟨#[93]⟩ s fun s => obind (runP E n .pre s) fun x s => some (s.add (nd x))) (closeR E (mR E (n + 7) .pre) nd) :=
        fun m1 nd h => ContR.want (k' := fun s => rbind (mR E (n + 7) .pre s) fun x s => nodeR (nd x) s) (by decide) (by omega) (un (m1 + 1) nd (by omega))
      have ag : ∀ (m1 : Nat) (op : Int), m1 + 4 ≤ 500000 → ContR E m1 (m1 + 4) (fun s => expectP E ⟨#[91]⟩ s fun s => obind (some (nameP E 1 s)) fun a s => expectP E ⟨#[93]⟩ s fun s => obind (runP E n .pre s) fun x s => some (s.add ⟨op, a, 0, 0, x, 0⟩)) (modalA E (mR E (n + 7) .pre) op) :=
        fun m1 op h => ContR.want (k' := fun s => rbind (some (nameR E 1 s)) fun a s => closeR E (mR E (n + 7) .pre) (fun x => ⟨op, a, 0, 0, x, 0⟩) s) (by decide) (by omega)
          (ContR.bind ContR.name (fun a => cl (m1 + 1) (fun x => ⟨op, a, 0, 0, x, 0⟩) (by omega)))
      have grp : ∀ (m1 m2 : Nat) (k : Nat → PSt → Option PRes) (k' : Nat → RunR), m1 ≤ 500000 → (∀ g, ContR E (m1 + 1) m2 (k g) (k' g)) → ContR E m1 m2 (fun s => expectP E ⟨#[91]⟩ s fun s => obind (some (nameP E 1 s)) fun a s => obind (agentsL E (E.ws.length + 1) (2 ^ a) s) k)
          (fun s => rbind (wantR E ⟨#[91]⟩ s) fun _ s => rbind (groupR E s) k') :=
        fun m1 m2 k k' hm1 h => ContR.want (k' := fun s => rbind (some (nameR E 1 s)) fun a s => rbind (groupLR E (E.ws.length + 2) (2 ^ a) s) k') (by decide) (by omega) (ContR.bind ContR.name (fun a => ContR.bind (ContR.agents _ _) h))
      have bar : ∀ (m1 m2 : Nat) (k : Nat → PSt → Option PRes) (k' : Nat → RunR), m1 + 1 ≤ 500000 → (∀ c, ContR E (m1 + 1) m2 (k c) (k' c)) → ContR E m1 m2 (fun s => if tkP E s = ⟨#[124]⟩ then obind (runP E n .formula s.adv) k else obind (some (s.add ⟨1, 0, 0, 0, 0, 0⟩)) k)
          (fun s => rbind (barR E (mR E (n + 7) .formula) s) k') := by
        intro m1 m2 k k' h hk
        have c1 : ContR E m1 (m1 + 1) (fun s => if tkP E s = ⟨#[124]⟩ then runP E n .formula s.adv else some (s.add ⟨1, 0, 0, 0, 0, 0⟩)) (barR E (mR E (n + 7) .formula)) :=
          ContR.adv (a := runP E n .formula) (a' := mR E (n + 7) .formula) (by decide) (fun m3 h3 => (F m3 (by omega)).mono (Nat.le_refl _) (by omega)) (ContR.add (by omega))
        have c2 := ContR.bind c1 hk
        refine ⟨fun s h0 hi => ?_, c2.bad⟩
        have c3 := c2.good s h0 hi
        have e : (if tkP E (absR s) = ⟨#[124]⟩ then obind (runP E n .formula (absR s).adv) k else obind (some ((absR s).add ⟨1, 0, 0, 0, 0, 0⟩)) k) = obind (if tkP E (absR s) = ⟨#[124]⟩ then runP E n .formula (absR s).adv else some ((absR s).add ⟨1, 0, 0, 0, 0, 0⟩)) k := by split <;> rfl
        have c4 : SmR E m2 (if tkP E (absR s) = ⟨#[124]⟩ then obind (runP E n .formula (absR s).adv) k else obind (some ((absR s).add ⟨1, 0, 0, 0, 0, 0⟩)) k) (rbind (barR E (mR E (n + 7) .formula) s) k') := by rw [e]; exact c3
        exact c4
      refine ⟨fun s h0 hi => ?_, fun s h0 hi => badR_pre h0 hi⟩
      show SmR E (m + 1) (runP E (n + 1) .pre (absR s)) (preR E (mR E (n + 7) .pre) (mR E (n + 7) .formula) s)
      unfold runP preR
      dsimp only
      rw [if_neg (show ¬ s.e ≠ 0 from fun h => h h0), lookR_eq]
      have A : ∀ {w : ByteArray}, tkP E (absR s) = w → w.size ≠ 0 → ∃ m', m = m' + 10 ∧ InR E m' s.adv := fun hc hw => hi.adv (tk_lt hc hw)
      by_cases c1 : tkP E (absR s) = ⟨#[126]⟩
      · rw [if_pos c1, if_pos c1]
        obtain ⟨m', e, h⟩ := A c1 (by decide)
        exact SmR.mono ((un m' (fun x => ⟨4, 0, 0, 0, x, 0⟩) (by omega)).good s.adv h0 h) (by omega)
      rw [if_neg c1, if_neg c1]
      by_cases c2 : tkP E (absR s) = ⟨#[110, 101, 120, 116]⟩
      · rw [if_pos c2, if_pos c2]
        obtain ⟨m', e, h⟩ := A c2 (by decide)
        exact SmR.mono ((un m' (fun x => ⟨18, 0, 0, 0, x, 0⟩) (by omega)).good s.adv h0 h) (by omega)
      rw [if_neg c2, if_neg c2]
      by_cases c3 : tkP E (absR s) = ⟨#[112, 114, 101, 118]⟩
      · rw [if_pos c3, if_pos c3]
        obtain ⟨m', e, h⟩ := A c3 (by decide)
        exact SmR.mono ((un m' (fun x => ⟨20, 0, 0, 0, x, 0⟩) (by omega)).good s.adv h0 h) (by omega)
      rw [if_neg c3, if_neg c3]
      by_cases c4 : tkP E (absR s) = ⟨#[75]⟩
      · rw [if_pos c4, if_pos c4]
        obtain ⟨m', e, h⟩ := A c4 (by decide)
        exact SmR.mono ((ag m' 9 (by omega)).good s.adv h0 h) (by omega)
      rw [if_neg c4, if_neg c4]
      by_cases c5 : tkP E (absR s) = ⟨#[77]⟩
      · rw [if_pos c5, if_pos c5]
        obtain ⟨m', e, h⟩ := A c5 (by decide)
        exact SmR.mono ((ag m' 10 (by omega)).good s.adv h0 h) (by omega)
      rw [if_neg c5, if_neg c5]
      by_cases c6 : tkP E (absR s) = ⟨#[83]⟩
      · rw [if_pos c6, if_pos c6]
        obtain ⟨m', e, h⟩ := A c6 (by decide)
        exact SmR.mono ((ag m' 15 (by omega)).good s.adv h0 h) (by omega)
      rw [if_neg c6, if_neg c6]
      by_cases c7 : tkP E (absR s) = ⟨#[66]⟩
      · rw [if_pos c7, if_pos c7]
        obtain ⟨m', e, h⟩ := A c7 (by decide)
        have C : ContR E m' (m' + 5) (fun s => expectP E ⟨#[91]⟩ s fun s => obind (some (nameP E 1 s)) fun a s => if tkP E s = ⟨#[124]⟩ then obind (runP E n .formula s.adv) (fun c s => expectP E ⟨#[93]⟩ s fun s => obind (runP E n .pre s) fun x s => some (s.add ⟨14, a, 0, 0, c, x⟩)) else obind (some (s.add ⟨1, 0, 0, 0, 0, 0⟩)) (fun c s => expectP E ⟨#[93]⟩ s fun s => obind (runP E n .pre s) fun x s => some (s.add ⟨14, a, 0, 0, c, x⟩)))
            (modalB E (mR E (n + 7) .pre) (mR E (n + 7) .formula)) :=
          ContR.want (k' := fun s => rbind (some (nameR E 1 s)) fun a s => rbind (barR E (mR E (n + 7) .formula) s) fun c s => closeR E (mR E (n + 7) .pre) (fun x => ⟨14, a, 0, 0, c, x⟩) s) (by decide) (by omega)
            (ContR.bind ContR.name (fun a => bar (m' + 1) (m' + 5) _ _ (by omega) (fun c => cl (m' + 2) (fun x => ⟨14, a, 0, 0, c, x⟩) (by omega))))
        exact SmR.mono (C.good s.adv h0 h) (by omega)
      rw [if_neg c7, if_neg c7]
      by_cases c8 : tkP E (absR s) = ⟨#[69]⟩
      · rw [if_pos c8, if_pos c8]
        obtain ⟨m', e, h⟩ := A c8 (by decide)
        exact SmR.mono ((grp m' (m' + 4) _ _ (by omega) (fun g => cl (m' + 1) (fun x => ⟨11, 0, 0, g, x, 0⟩) (by omega))).good s.adv h0 h) (by omega)
      rw [if_neg c8, if_neg c8]
      by_cases c9 : tkP E (absR s) = ⟨#[68]⟩
      · rw [if_pos c9, if_pos c9]
        obtain ⟨m', e, h⟩ := A c9 (by decide)
        exact SmR.mono ((grp m' (m' + 4) _ _ (by omega) (fun g => cl (m' + 1) (fun x => ⟨12, 0, 0, g, x, 0⟩) (by omega))).good s.adv h0 h) (by omega)
      rw [if_neg c9, if_neg c9]
      by_cases c10 : tkP E (absR s) = ⟨#[67]⟩
      · rw [if_pos c10, if_pos c10]
        obtain ⟨m', e, h⟩ := A c10 (by decide)
        exact SmR.mono ((grp m' (m' + 5) _ _ (by omega) (fun g => bar (m' + 1) (m' + 5) _ _ (by omega) (fun c => cl (m' + 2) (fun x => ⟨13, 0, 0, g, c, x⟩) (by omega)))).good s.adv h0 h) (by omega)
      rw [if_neg c10, if_neg c10]
      by_cases c11 : tkP E (absR s) = ⟨#[91]⟩
      · rw [if_pos c11, if_pos c11]
        obtain ⟨m', e, h⟩ := A c11 (by decide)
        have C : ContR E m' (m' + 4) (fun s => if tkP E s = ⟨#[33]⟩ then obind (runP E n .formula s.adv) fun c s => expectP E ⟨#[93]⟩ s fun s => obind (runP E n .pre s) fun x s => some (s.add ⟨16, 0, 0, 0, c, x⟩)
              else obind (some (nameP E 2 s)) fun a s => expectP E ⟨#[46]⟩ s fun s => obind (some (numberP E s)) fun e s => expectP E ⟨#[93]⟩ s fun s => obind (runP E n .pre s) fun x s => some (s.add ⟨17, a, e, 0, x, 0⟩))
            (updateR E (mR E (n + 7) .pre) (mR E (n + 7) .formula)) :=
          ContR.adv (a := fun s => obind (runP E n .formula s) fun c s => expectP E ⟨#[93]⟩ s fun s => obind (runP E n .pre s) fun x s => some (s.add ⟨16, 0, 0, 0, c, x⟩)) (a' := fun s => rbind (mR E (n + 7) .formula s) fun c s => closeR E (mR E (n + 7) .pre) (fun x => ⟨16, 0, 0, 0, c, x⟩) s) (by decide)
            (fun m1 h1 => (ContR.bind (F m1 (by omega)) (fun c => cl (m1 + 1) (fun x => ⟨16, 0, 0, 0, c, x⟩) (by omega))).mono (Nat.le_refl _) (by omega))
            (show ContR E m' (m' + 4) _ (fun s => rbind (some (nameR E 2 s)) fun a s => rbind (wantR E ⟨#[46]⟩ s) fun _ s => rbind (some (numberR E s)) fun e s => closeR E (mR E (n + 7) .pre) (fun x => ⟨17, a, e, 0, x, 0⟩) s) from
              ContR.bind ContR.name (fun a => ContR.want (k' := fun s => rbind (some (numberR E s)) fun e s => closeR E (mR E (n + 7) .pre) (fun x => ⟨17, a, e, 0, x, 0⟩) s) (by decide) (by omega)
                (ContR.bind ContR.number (fun e => cl (m' + 1) (fun x => ⟨17, a, e, 0, x, 0⟩) (by omega)))))
        exact SmR.mono (C.good s.adv h0 h) (by omega)
      rw [if_neg c11, if_neg c11]
      by_cases c12 : tkP E (absR s) = ⟨#[116, 114, 117, 101]⟩
      · rw [if_pos c12, if_pos c12]
        obtain ⟨m', e, h⟩ := A c12 (by decide)
        exact SmR.mono (SmR.add (s := s.adv) h0 h (by omega)) (by omega)
      rw [if_neg c12, if_neg c12]
      by_cases c13 : tkP E (absR s) = ⟨#[102, 97, 108, 115, 101]⟩
      · rw [if_pos c13, if_pos c13]
        obtain ⟨m', e, h⟩ := A c13 (by decide)
        exact SmR.mono (SmR.add (s := s.adv) h0 h (by omega)) (by omega)
      rw [if_neg c13, if_neg c13]
      by_cases c14 : tkP E (absR s) = ⟨#[40]⟩
      · rw [if_pos c14, if_pos c14]
        obtain ⟨m', e, h⟩ := A c14 (by decide)
        have C : ContR E m' (m' + 2) (fun s => obind (runP E n .formula s) fun x s => expectP E ⟨#[41]⟩ s fun s => some (.ok x s)) (fun s => rbind (mR E (n + 7) .formula s) fun x s => rbind (wantR E ⟨#[41]⟩ s) fun _ s => some (x, s)) :=
          ContR.bind (F m' (by omega)) (fun x => ContR.want (k' := fun s => some (x, s)) (by decide) (by omega) ContR.ok)
        exact SmR.mono (C.good s.adv h0 h) (by omega)
      rw [if_neg c14, if_neg c14]
      exact (show ContR E m (m + 1) (fun s => obind (some (nameP E 0 s)) fun a s => some (s.add ⟨3, a, 0, 0, 0, 0⟩)) (fun s => rbind (some (nameR E 0 s)) fun a s => nodeR ⟨3, a, 0, 0, 0, 0⟩ s) from ContR.bind ContR.name (fun a => ContR.add (by omega))).good s h0 hi
/-- what the machine leaves for a text of at most 4000 tokens -/
theorem machineR_end (E : PEnv) (hl : E.ws.length ≤ 4000) : ∃ v s', mR E (10 * E.ws.length + 14) .formula ⟨0, [], 0, 0⟩ = some (v, s') ∧ InR E (11 * E.ws.length + 1) s' ∧
    ∀ r, runP E (10 * E.ws.length + 7) .formula ⟨0, []⟩ = some r → (match r with | .ok v0 s0 => v = v0 ∧ s'.e = 0 ∧ absR s' = s0 | .err t e => e ≠ 0 ∧ s'.e = e ∧ s'.bad = t) := by
  obtain ⟨r, hr, _, _⟩ := run_total E (10 * E.ws.length + 7) .formula ⟨0, []⟩ (by simp [Rule.rank])
  have hS := (run_simR E (10 * E.ws.length + 7) .formula (11 * E.ws.length) (by show 11 * E.ws.length + 1 ≤ 500000; omega)).good ⟨0, [], 0, 0⟩ rfl (by unfold InR potR; simp)
  obtain ⟨v, s', h1, h2, h3⟩ := hS r hr
  refine ⟨v, s', h1, h2, fun r' hr' => ?_⟩
  rw [hr] at hr'
  injection hr' with hr'
  rw [← hr']
  exact h3
end Go.Proofs.Ws
