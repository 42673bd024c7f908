/- Layer 6: texts joined: Tp Tq. -/
import Derived.Test.YtenbhalnpiahaaaGreatDoorJa
/- Layer 6 as plain mathematics: the machine does what the parser over tokens says; behind an error it ends soon. -/
namespace Go.Proofs.Ws
open Go
def potS (E : SEnv) (s : SS) : Nat := s.nodes.length + 3 * (E.P.ws.length - s.next)
def absS (s : SS) : PSt := ⟨s.next, s.nodes⟩
def InS (E : SEnv) (m : Nat) (s : SS) : Prop := s.next ≤ E.P.ws.length ∧ potS E s ≤ m
def Sm (E : SEnv) (m : Nat) (r : Option PRes) (p : Option (Nat × SS)) : Prop :=
  ∀ x, r = some x → ∃ v s', p = some (v, s') ∧ InS E m s' ∧ (match x with | .ok v0 s0 => v = v0 ∧ s'.e = 0 ∧ absS s' = s0 | .err t e => e ≠ 0 ∧ s'.e = e ∧ s'.po = posS E t)
def Er (E : SEnv) (m : Nat) (s : SS) (p : Option (Nat × SS)) : Prop := ∃ v s', p = some (v, s') ∧ InS E m s' ∧ s'.e = s.e ∧ s'.po = s.po
theorem InS.mono {E : SEnv} {m m' : Nat} {s : SS} (h : InS E m s) (hm : m ≤ m') : InS E m' s := ⟨h.1, Nat.le_trans h.2 hm⟩
theorem InS.len {E : SEnv} {m : Nat} {s : SS} (h : InS E m s) : s.nodes.length ≤ m := Nat.le_trans (Nat.le_add_right _ _) h.2
theorem InS.adv {E : SEnv} {m : Nat} {s : SS} (h : InS E m s) (hl : s.next < E.P.ws.length) : ∃ m', m = m' + 3 ∧ InS E m' s.adv := by
  have h2 := h.2
  unfold potS at h2
  refine ⟨m - 3, by omega, hl, ?_⟩
  show s.nodes.length + 3 * (E.P.ws.length - (s.next + 1)) ≤ m - 3
  omega
theorem InS.put {E : SEnv} {m : Nat} {s : SS} (h : InS E m s) (n : Nd) : InS E (m + 1) { s with nodes := (putNd s.nodes n).2 } := by
  have h2 := h.2
  have h3 := put_len s.nodes n
  unfold potS at h2
  refine ⟨h.1, ?_⟩
  show (putNd s.nodes n).2.length + 3 * (E.P.ws.length - s.next) ≤ m + 1
  omega
theorem failS_bad {E : SEnv} {t : Nat} {e : Int} {s : SS} (h : s.e ≠ 0) : failS E t e s = s := by unfold failS; rw [if_neg h]
theorem InS.fail {E : SEnv} {m : Nat} {s : SS} (h : InS E m s) (t : Nat) (e : Int) : InS E m (failS E t e s) := by
  unfold failS; split
  · exact h
  · exact h
theorem Sm.mono {E : SEnv} {m m' : Nat} {r : Option PRes} {p : Option (Nat × SS)} (h : Sm E m r p) (hm : m ≤ m') : Sm E m' r p := fun x hx => by
  obtain ⟨v, s', h1, h2, h3⟩ := h x hx
  exact ⟨v, s', h1, h2.mono hm, h3⟩
theorem Er.mono {E : SEnv} {m m' : Nat} {s : SS} {p : Option (Nat × SS)} (h : Er E m s p) (hm : m ≤ m') : Er E m' s p := by
  obtain ⟨v, s', h1, h2, h3⟩ := h
  exact ⟨v, s', h1, h2.mono hm, h3⟩
theorem Sm.bind {E : SEnv} {m1 m : Nat} {a : Option PRes} {b : Option (Nat × SS)} {k : Nat → PSt → Option PRes} {k' : Nat → SS → Option (Nat × SS)} (h : Sm E m1 a b)
    (hk : ∀ v s, s.e = 0 → InS E m1 s → Sm E m (k v (absS s)) (k' v s)) (he : ∀ v s, s.e ≠ 0 → InS E m1 s → Er E m s (k' v s)) : Sm E m (obind a k) (sbind b k') := by
  intro x hx
  cases a with
  | none => cases hx
  | some r =>
    obtain ⟨v, s', hb, hin, hm⟩ := h r rfl
    subst hb
    cases r with
    | ok v0 s0 =>
      obtain ⟨rfl, h0, rfl⟩ := hm
      exact hk v s' h0 hin x hx
    | err t e =>
      obtain ⟨hne, he1, hpo⟩ := hm
      obtain ⟨v2, s2, h2, hin2, he2, hpo2⟩ := he v s' (by rw [he1]; exact hne) hin
      injection hx with hx
      subst hx
      exact ⟨v2, s2, h2, hin2, hne, by rw [he2, he1], by rw [hpo2, hpo]⟩
theorem Er.bind {E : SEnv} {m1 m : Nat} {s : SS} {b : Option (Nat × SS)} {k' : Nat → SS → Option (Nat × SS)} (h : Er E m1 s b) (hs : s.e ≠ 0) (hk : ∀ v s1, s1.e ≠ 0 → InS E m1 s1 → Er E m s1 (k' v s1)) : Er E m s (sbind b k') := by
  obtain ⟨v, s1, rfl, h2, h3, h4⟩ := h
  obtain ⟨v2, s2, g1, g2, g3, g4⟩ := hk v s1 (by rw [h3]; exact hs) h2
  exact ⟨v2, s2, g1, g2, by rw [g3, h3], by rw [g4, h4]⟩
theorem Sm.ok {E : SEnv} {m v : Nat} {s : SS} (h0 : s.e = 0) (h : InS E m s) : Sm E m (some (.ok v (absS s))) (some (v, s)) := fun x hx => by
  injection hx with hx
  subst hx
  exact ⟨v, s, rfl, h, rfl, h0, rfl⟩
theorem Er.some {E : SEnv} {m v : Nat} {s : SS} (h : InS E m s) : Er E m s (Option.some (v, s)) := ⟨v, s, rfl, h, rfl, rfl⟩
theorem addS_eq {n : Nd} {s : SS} (h : s.nodes.length ≤ 1000000) : addS n s = some ((putNd s.nodes n).1, { s with nodes := (putNd s.nodes n).2 }) := by unfold addS; rw [if_pos h]
theorem Sm.add {E : SEnv} {m : Nat} {n : Nd} {s : SS} (h0 : s.e = 0) (h : InS E m s) (hm : m ≤ 1000000) : Sm E (m + 1) (some ((absS s).add n)) (addS n s) := fun x hx => by
  injection hx with hx
  subst hx
  rw [addS_eq (Nat.le_trans h.len hm)]
  exact ⟨_, _, rfl, h.put n, rfl, h0, rfl⟩
theorem Er.add {E : SEnv} {m : Nat} {n : Nd} {s : SS} (h : InS E m s) (hm : m ≤ 1000000) : Er E (m + 1) s (addS n s) := by
  rw [addS_eq (Nat.le_trans h.len hm)]
  exact ⟨_, _, rfl, h.put n, rfl, rfl⟩
theorem Sm.err {E : SEnv} {m v t : Nat} {e : Int} {s : SS} (h0 : s.e = 0) (h : InS E m s) (he : e ≠ 0) : Sm E m (some (.err t e)) (some (v, failS E t e s)) := fun x hx => by
  injection hx with hx
  subst hx
  refine ⟨v, _, rfl, h.fail t e, he, ?_, ?_⟩
  · unfold failS; rw [if_pos h0]
  · unfold failS; rw [if_pos h0]
/- what the small steps do behind an error -/
theorem peekS_bad {E : SEnv} {s : SS} (h : s.e ≠ 0) : peekS E s = ByteArray.empty := by unfold peekS; rw [if_neg h]
theorem peekS_ok {E : SEnv} {s : SS} (h : s.e = 0) : peekS E s = tkP E.P (absS s) := by unfold peekS; rw [if_pos h]; rfl
theorem expectS_bad {E : SEnv} {w : ByteArray} {s : SS} (h : s.e ≠ 0) (hw : w ≠ ByteArray.empty) : expectS E w s = s := by
  unfold expectS
  rw [peekS_bad h, if_neg (fun e => hw e.symm), failS_bad h]
theorem nameS_bad {E : SEnv} {what : Nat} {s : SS} (h : s.e ≠ 0) : nameS E what s = (0, s) := by
  unfold nameS
  rw [peekS_bad h, if_pos (by decide), failS_bad h]
theorem eventS_bad {E : SEnv} {s : SS} (h : s.e ≠ 0) : eventS E s = (0, s) := by
  unfold eventS
  rw [peekS_bad h, if_pos (by decide), failS_bad h]
theorem agentsLS_bad {E : SEnv} {n g : Nat} {s : SS} (h : s.e ≠ 0) : agentsLS E (n + 1) g s = some (g, s) := by
  unfold agentsLS
  rw [peekS_bad h, if_neg (by decide)]
theorem left_bad {E : SEnv} {w : ByteArray} {op : Int} {R : RunS} {L : Nat → RunS} {x : Nat} {s : SS} (h : s.e ≠ 0) (hw : w ≠ ByteArray.empty) : leftS E w op R L x s = some (x, s) := by
  unfold leftS
  rw [peekS_bad h, if_neg (fun e => hw e.symm)]
def Rule.plus : Rule → Nat
  | .iffL _ => 0
  | .orL _ => 0
  | .andL _ => 0
  | _ => 1
def Bad (E : SEnv) (rule : Rule) (R : RunS) : Prop := ∀ m s, s.e ≠ 0 → InS E m s → m ≤ 1000000 → Er E (m + rule.plus) s (R s)
theorem bad_pre {E : SEnv} {R F : RunS} : Bad E .pre (preS E R F) := by
  intro m s he h hm
  have e1 : preS E R F s = factS E s := by
    unfold preS
    rw [peekS_bad he]
    repeat rw [if_neg (by decide)]
  rw [e1]
  unfold factS
  rw [nameS_bad he]
  exact Er.add h hm
theorem bad_andL {E : SEnv} {n x : Nat} : Bad E (.andL x) (mS E (n + 1) (.andL x)) := fun m s he h _ => by
  show Er E m s (leftS E _ _ _ _ _ _)
  rw [left_bad he (by decide)]; exact Er.some h
theorem bad_orL {E : SEnv} {n x : Nat} : Bad E (.orL x) (mS E (n + 1) (.orL x)) := fun m s he h _ => by
  show Er E m s (leftS E _ _ _ _ _ _)
  rw [left_bad he (by decide)]; exact Er.some h
theorem bad_iffL {E : SEnv} {n x : Nat} : Bad E (.iffL x) (mS E (n + 1) (.iffL x)) := fun m s he h _ => by
  show Er E m s (leftS E _ _ _ _ _ _)
  rw [left_bad he (by decide)]; exact Er.some h
theorem bad_pre' {E : SEnv} {n : Nat} : Bad E .pre (mS E (n + 1) .pre) := bad_pre
theorem Er.loop {E : SEnv} {m : Nat} {s : SS} {p : Option (Nat × SS)} (h : Er E (m + 0) s p) : Er E m s p := h
theorem bad_and {E : SEnv} {n : Nat} : Bad E .and (mS E (n + 2) .and) := fun m s he h hm =>
  Er.bind (bad_pre' m s he h hm) he (fun v s1 he1 h1 => by
    show Er E _ s1 (leftS E _ _ _ _ _ _)
    rw [left_bad he1 (by decide)]; exact Er.some h1)
theorem bad_or {E : SEnv} {n : Nat} : Bad E .or (mS E (n + 3) .or) := fun m s he h hm =>
  Er.bind (bad_and m s he h hm) he (fun v s1 he1 h1 => by
    show Er E _ s1 (leftS E _ _ _ _ _ _)
    rw [left_bad he1 (by decide)]; exact Er.some h1)
theorem bad_time {E : SEnv} {n : Nat} : Bad E .time (mS E (n + 4) .time) := fun m s he h hm => by
  unfold mS
  exact Er.bind (bad_or m s he h hm) he (fun v s1 he1 h1 => by
    rw [peekS_bad he1, if_neg (by decide), if_neg (by decide)]; exact Er.some h1)
theorem bad_implies {E : SEnv} {n : Nat} : Bad E .implies (mS E (n + 5) .implies) := fun m s he h hm => by
  unfold mS
  exact Er.bind (bad_time m s he h hm) he (fun v s1 he1 h1 => by
    rw [peekS_bad he1, if_neg (by decide)]; exact Er.some h1)
theorem bad_formula {E : SEnv} {n : Nat} : Bad E .formula (mS E (n + 6) .formula) := fun m s he h hm =>
  Er.bind (bad_implies m s he h hm) he (fun v s1 he1 h1 => by
    show Er E _ s1 (leftS E _ _ _ _ _ _)
    rw [left_bad he1 (by decide)]; exact Er.some h1)
/- the small steps -/
theorem Sm.expect {E : SEnv} {m1 m : Nat} {w : ByteArray} {s : SS} {k : PSt → Option PRes} {k' : SS → Option (Nat × SS)} (h0 : s.e = 0) (h : InS E m1 s) (hw : w.size ≠ 0)
    (hk : ∀ s : SS, s.e = 0 → InS E m1 s → Sm E m (k (absS s)) (k' s)) (he : ∀ s : SS, s.e ≠ 0 → InS E m1 s → Er E m s (k' s)) : Sm E m (expectP E.P w (absS s) k) (k' (expectS E w s)) := by
  unfold expectP expectS
  rw [peekS_ok h0]
  by_cases hc : tkP E.P (absS s) = w
  · rw [if_pos hc, if_pos hc]
    have hl := tk_lt hc hw
    obtain ⟨m', hm, ha⟩ := h.adv hl
    exact hk s.adv h0 (ha.mono (by omega))
  · rw [if_neg hc, if_neg hc]
    intro x hx
    injection hx with hx
    subst hx
    have hf : (failS E s.next 4 s).e = 4 ∧ (failS E s.next 4 s).po = posS E s.next := by unfold failS; rw [if_pos h0]; exact ⟨rfl, rfl⟩
    obtain ⟨v2, s2, h2, hin2, he2, hpo2⟩ := he (failS E s.next 4 s) (by rw [hf.1]; decide) (h.fail _ _)
    exact ⟨v2, s2, h2, hin2, by decide, by rw [he2, hf.1], by rw [hpo2, hf.2]; rfl⟩
theorem Sm.name {E : SEnv} {m what : Nat} {s : SS} (h0 : s.e = 0) (h : InS E m s) : Sm E m (some (nameP E.P what (absS s))) (some (nameS E what s)) := by
  unfold nameP nameS
  rw [peekS_ok h0]
  by_cases h1 : nameOk (tkP E.P (absS s)) = false
  · rw [if_pos h1, if_pos h1]; exact Sm.err h0 h (by decide)
  · rw [if_neg h1, if_neg h1]
    have hl : s.next < E.P.ws.length := tk_lt (s := absS s) rfl (fun hz => h1 (by
      unfold nameOk
      rw [decide_eq_false (by rw [hz]; decide)]; rfl))
    show Sm E m (some (if Lib.idxOfS (listS E what) (tkP E.P (absS s)) < 0 then _ else _)) _
    by_cases h2 : Lib.idxOfS (listS E what) (tkP E.P (absS s)) < 0
    · rw [if_pos h2, if_pos h2]; exact Sm.err h0 h (by decide)
    · rw [if_neg h2, if_neg h2]
      obtain ⟨m', hm, ha⟩ := h.adv hl
      exact Sm.ok (s := s.adv) h0 (ha.mono (by omega))
theorem Sm.event {E : SEnv} {m : Nat} {s : SS} (h0 : s.e = 0) (h : InS E m s) : Sm E m (some (numberP E.P (absS s))) (some (eventS E s)) := by
  unfold numberP eventS
  rw [peekS_ok h0]
  by_cases h1 : (decide ((tkP E.P (absS s)).size ≠ 0) && digN (headN (tkP E.P (absS s)))) = false
  · rw [if_pos h1, if_pos h1]; exact Sm.err h0 h (by decide)
  · rw [if_neg h1, if_neg h1]
    have hl : s.next < E.P.ws.length := tk_lt (s := absS s) rfl (fun hz => h1 (by rw [decide_eq_false (by rw [hz]; decide)]; rfl))
    by_cases h2 : 1 < (tkP E.P (absS s)).size ∨ 8 ≤ headN (tkP E.P (absS s)) - 48
    · rw [if_pos h2, if_pos h2]; exact Sm.err h0 h (by decide)
    · rw [if_neg h2, if_neg h2]
      obtain ⟨m', hm, ha⟩ := h.adv hl
      exact Sm.ok (s := s.adv) h0 (ha.mono (by omega))
theorem Sm.agentsL {E : SEnv} : ∀ (n g m : Nat) (s : SS), s.e = 0 → InS E m s → Sm E m (agentsL E.P n g (absS s)) (agentsLS E (n + 1) g s) := by
  intro n
  induction n with
  | zero => intro g m s _ _ x hx; exact absurd hx (by simp [Ws.agentsL])
  | succ n ih =>
    intro g m s h0 h
    unfold Ws.agentsL agentsLS
    rw [peekS_ok h0]
    by_cases hc : tkP E.P (absS s) = ⟨#[44]⟩
    · rw [if_pos hc, if_pos hc]
      obtain ⟨m', hm, ha⟩ := h.adv (tk_lt hc (by decide))
      have ha2 := ha.mono (m' := m) (by omega)
      have key : Sm E m (obind (some (nameP E.P 1 (absS s.adv))) fun b s' => if g.testBit b = true then some (.err (s.next + 1) 7) else Ws.agentsL E.P n (g ||| 2 ^ b) s')
          (sbind (some (nameS E 1 s.adv)) fun b t => agentsLS E (n + 1) (g ||| 2 ^ b) (if g.testBit b = true then failS E s.adv.next 7 t else t)) := by
        refine Sm.bind (Sm.name h0 ha2) ?_ ?_
        · intro v t ht hin
          by_cases hb : g.testBit v = true
          · rw [if_pos hb, if_pos hb]
            have hf : (failS E s.adv.next 7 t).e = 7 := by unfold failS; rw [if_pos ht]
            rw [agentsLS_bad (by rw [hf]; decide)]
            exact Sm.err ht hin (by decide)
          · rw [if_neg hb, if_neg hb]
            exact ih _ m t ht hin
        · intro v t ht hin
          have e1 : (if g.testBit v = true then failS E s.adv.next 7 t else t) = t := by
            by_cases hb : g.testBit v = true
            · rw [if_pos hb]; exact failS_bad ht
            · rw [if_neg hb]
          rw [e1, agentsLS_bad ht]
          exact Er.some hin
      exact key
    · rw [if_neg hc, if_neg hc]
      exact Sm.ok h0 h
end Go.Proofs.Ws
/- Layer 6 as plain mathematics: what the machine returns for a text. -/
namespace Go.Proofs.Ws
open Go
/-- two ways to go on, behind good and bad states -/
structure Cont (E : SEnv) (m m' : Nat) (k : PSt → Option PRes) (k' : RunS) : Prop where
  good : ∀ s : SS, s.e = 0 → InS E m s → Sm E m' (k (absS s)) (k' s)
  bad : ∀ s : SS, s.e ≠ 0 → InS E m s → Er E m' s (k' s)
theorem Cont.mono {E : SEnv} {m m' n n' : Nat} {k : PSt → Option PRes} {k' : RunS} (h : Cont E m m' k k') (h1 : n ≤ m) (h2 : m' ≤ n') : Cont E n n' k k' :=
  ⟨fun s h0 hi => (h.good s h0 (hi.mono h1)).mono h2, fun s h0 hi => (h.bad s h0 (hi.mono h1)).mono h2⟩
theorem Cont.bind {E : SEnv} {m m1 m' : Nat} {a : PSt → Option PRes} {b : RunS} {k : Nat → PSt → Option PRes} {k' : Nat → RunS} (h : Cont E m m1 a b) (hk : ∀ v, Cont E m1 m' (k v) (k' v)) :
    Cont E m m' (fun s => obind (a s) k) (fun s => sbind (b s) k') :=
  ⟨fun s h0 hi => Sm.bind (h.good s h0 hi) (fun v t ht hin => (hk v).good t ht hin) (fun v t ht hin => (hk v).bad t ht hin), fun s h0 hi => Er.bind (h.bad s h0 hi) h0 (fun v t ht hin => (hk v).bad t ht hin)⟩
theorem Cont.expect {E : SEnv} {m m' : Nat} {w : ByteArray} {k : PSt → Option PRes} {k' : RunS} (hw : w.size ≠ 0) (h : Cont E m m' k k') : Cont E m m' (fun s => expectP E.P w s k) (fun s => k' (expectS E w s)) :=
  ⟨fun s h0 hi => Sm.expect h0 hi hw h.good h.bad, fun s h0 hi => by
    show Er E m' s (k' (expectS E w s))
    rw [expectS_bad h0 (fun e => hw (by rw [e]; rfl))]
    exact h.bad s h0 hi⟩
theorem Cont.name {E : SEnv} {m what : Nat} : Cont E m m (fun s => some (nameP E.P what s)) (fun s => some (nameS E what s)) :=
  ⟨fun _ h0 hi => Sm.name h0 hi, fun s h0 hi => by show Er E m s (some (nameS E what s)); rw [nameS_bad h0]; exact Er.some hi⟩
theorem Cont.event {E : SEnv} {m : Nat} : Cont E m m (fun s => some (numberP E.P s)) (fun s => some (eventS E s)) :=
  ⟨fun _ h0 hi => Sm.event h0 hi, fun s h0 hi => by show Er E m s (some (eventS E s)); rw [eventS_bad h0]; exact Er.some hi⟩
theorem Cont.agents {E : SEnv} {m n g : Nat} : Cont E m m (fun s => agentsL E.P n g s) (fun s => agentsLS E (n + 1) g s) :=
  ⟨fun s h0 hi => Sm.agentsL n g m s h0 hi, fun s h0 hi => by show Er E m s (agentsLS E (n + 1) g s); rw [agentsLS_bad h0]; exact Er.some hi⟩
theorem Cont.add {E : SEnv} {m : Nat} {n : Nd} (hm : m ≤ 1000000) : Cont E m (m + 1) (fun s => some (s.add n)) (fun s => addS n s) :=
  ⟨fun _ h0 hi => Sm.add h0 hi hm, fun _ _ hi => Er.add hi hm⟩
theorem Cont.ok {E : SEnv} {m v : Nat} : Cont E m m (fun s => some (.ok v s)) (fun s => some (v, s)) := ⟨fun _ h0 hi => Sm.ok h0 hi, fun _ _ hi => Er.some hi⟩
/-- one token is read -/
theorem Cont.adv {E : SEnv} {m m' : Nat} {w : ByteArray} {a b : PSt → Option PRes} {a' b' : RunS} (hw : w.size ≠ 0) (ha : ∀ m1, m = m1 + 3 → Cont E m1 m' a a') (hb : Cont E m m' b b') :
    Cont E m m' (fun s => if tkP E.P s = w then a s.adv else b s) (fun s => if peekS E s = w then a' s.adv else b' s) :=
  ⟨fun s h0 hi => by
    show Sm E m' (if tkP E.P (absS s) = w then a (absS s).adv else b (absS s)) (if peekS E s = w then a' s.adv else b' s)
    rw [peekS_ok h0]
    by_cases hc : tkP E.P (absS s) = w
    · rw [if_pos hc, if_pos hc]
      obtain ⟨m1, h1, h2⟩ := hi.adv (tk_lt hc hw)
      exact (ha m1 h1).good s.adv h0 h2
    · rw [if_neg hc, if_neg hc]
      exact hb.good s h0 hi, fun s h0 hi => by
    show Er E m' s (if peekS E s = w then a' s.adv else b' s)
    rw [peekS_bad h0, if_neg (fun e => hw (by rw [← e]; rfl))]
    exact hb.bad s h0 hi⟩
theorem Cont.left {E : SEnv} {w : ByteArray} {op : Int} {R : RunS} {L : Nat → RunS} {x m : Nat} {rP : PSt → Option PRes} {LP : Nat → PSt → Option PRes} (hw : w.size ≠ 0) (hm : m ≤ 500000)
    (hR : ∀ m, m + 1 ≤ 500000 → Cont E m (m + 1) rP R) (hL : ∀ k, Cont E m m (LP k) (L k)) :
    Cont E m m (fun s => if tkP E.P s = w then obind (rP s.adv) fun y s => obind (some (s.add ⟨op, 0, 0, 0, x, y⟩)) fun k s => LP k s else some (.ok x s)) (leftS E w op R L x) :=
  Cont.adv (a := fun s => obind (rP s) fun y s => obind (some (s.add ⟨op, 0, 0, 0, x, y⟩)) fun k s => LP k s) (a' := fun s => sbind (R s) fun y s => sbind (addS ⟨op, 0, 0, 0, x, y⟩ s) fun k s => L k s) hw
    (fun m1 h1 => Cont.bind (hR m1 (by omega)) (fun y => Cont.bind (Cont.add (by omega)) (fun k => (hL k).mono (by omega) (Nat.le_refl _)))) Cont.ok
theorem run_sim (E : SEnv) : ∀ (n : Nat) (rule : Rule) (m : Nat), m + rule.plus ≤ 500000 → Cont E m (m + rule.plus) (runP E.P n rule) (mS E (n + 7) rule) := by
  intro n
  induction n with
  | zero =>
    intro rule m hm
    refine ⟨fun s _ _ x hx => absurd hx (by simp [runP]), fun s h0 hi => ?_⟩
    cases rule with
    | formula => exact bad_formula (n := 1) m s h0 hi (by omega)
    | implies => exact bad_implies (n := 2) m s h0 hi (by omega)
    | time => exact bad_time (n := 3) m s h0 hi (by omega)
    | or => exact bad_or (n := 4) m s h0 hi (by omega)
    | and => exact bad_and (n := 5) m s h0 hi (by omega)
    | pre => exact bad_pre' (n := 6) m s h0 hi (by omega)
    | iffL x => exact bad_iffL (n := 6) m s h0 hi (by omega)
    | orL x => exact bad_orL (n := 6) m s h0 hi (by omega)
    | andL x => exact bad_andL (n := 6) m s h0 hi (by omega)
  | succ n ih =>
    intro rule m hm
    have hr : ∀ (r : Rule), r.plus = 1 → ∀ m, m + 1 ≤ 500000 → Cont E m (m + 1) (runP E.P n r) (mS E (n + 7) r) := fun r h m hm => by
      have := ih r m (by rw [h]; exact hm)
      rw [h] at this
      exact this
    have hl : ∀ (r : Rule), r.plus = 0 → ∀ m, m ≤ 500000 → Cont E m m (runP E.P n r) (mS E (n + 7) r) := fun r h m hm => by
      have := ih r m (by rw [h]; exact hm)
      rw [h] at this
      exact this
    cases rule with
    | formula => exact Cont.bind (hr .implies rfl m hm) (fun x => hl (.iffL x) rfl (m + 1) hm)
    | or => exact Cont.bind (hr .and rfl m hm) (fun x => hl (.orL x) rfl (m + 1) hm)
    | and => exact Cont.bind (hr .pre rfl m hm) (fun x => hl (.andL x) rfl (m + 1) hm)
    | iffL x => exact Cont.left (rP := runP E.P n .implies) (LP := fun k => runP E.P n (.iffL k)) (by decide) hm (hr .implies rfl) (fun k => hl (.iffL k) rfl m hm)
    | orL x => exact Cont.left (rP := runP E.P n .and) (LP := fun k => runP E.P n (.orL k)) (by decide) hm (hr .and rfl) (fun k => hl (.orL k) rfl m hm)
    | andL x => exact Cont.left (rP := runP E.P n .pre) (LP := fun k => runP E.P n (.andL k)) (by decide) hm (hr .pre rfl) (fun k => hl (.andL k) rfl m hm)
    | implies =>
      have hm' : m + 1 ≤ 500000 := hm
      have two : ∀ x : Nat, Cont E (m + 1) (m + 1) (fun s => if tkP E.P s = ⟨#[45, 62]⟩ then obind (runP E.P n .implies s.adv) fun y s => some (s.add ⟨7, 0, 0, 0, x, y⟩) else some (.ok x s))
          (fun s => if peekS E s = ⟨#[45, 62]⟩ then sbind (mS E (n + 7) .implies s.adv) fun y s => addS ⟨7, 0, 0, 0, x, y⟩ s else some (x, s)) := fun x =>
        Cont.adv (a := fun s => obind (runP E.P n .implies s) fun y s => some (s.add ⟨7, 0, 0, 0, x, y⟩)) (a' := fun s => sbind (mS E (n + 7) .implies s) fun y s => addS ⟨7, 0, 0, 0, x, y⟩ s) (by decide)
          (fun m1 h1 => (Cont.bind (hr .implies rfl m1 (by omega)) (fun y => Cont.add (by omega))).mono (Nat.le_refl _) (by omega)) Cont.ok
      exact Cont.bind (hr .time rfl m hm) two
    | time =>
      have hm' : m + 1 ≤ 500000 := hm
      have half : ∀ (op : Int) (x m1 : Nat), m + 1 = m1 + 3 → Cont E m1 (m + 1) (fun s => obind (runP E.P n .time s) fun y s => some (s.add ⟨op, 0, 0, 0, x, y⟩)) (fun s => sbind (mS E (n + 7) .time s) fun y s => addS ⟨op, 0, 0, 0, x, y⟩ s) :=
        fun op x m1 h1 => (Cont.bind (hr .time rfl m1 (by omega)) (fun y => Cont.add (by omega))).mono (Nat.le_refl _) (by omega)
      have two : ∀ x : Nat, Cont E (m + 1) (m + 1) (fun s => if tkP E.P s = ⟨#[117, 110, 116, 105, 108]⟩ then obind (runP E.P n .time s.adv) fun y s => some (s.add ⟨19, 0, 0, 0, x, y⟩) else if tkP E.P s = ⟨#[115, 105, 110, 99, 101]⟩ then obind (runP E.P n .time s.adv) fun y s => some (s.add ⟨21, 0, 0, 0, x, y⟩) else some (.ok x s))
          (fun s => if peekS E s = ⟨#[117, 110, 116, 105, 108]⟩ then sbind (mS E (n + 7) .time s.adv) fun y s => addS ⟨19, 0, 0, 0, x, y⟩ s else if peekS E s = ⟨#[115, 105, 110, 99, 101]⟩ then sbind (mS E (n + 7) .time s.adv) fun y s => addS ⟨21, 0, 0, 0, x, y⟩ s else some (x, s)) := fun x =>
        Cont.adv (a := fun s => obind (runP E.P n .time s) fun y s => some (s.add ⟨19, 0, 0, 0, x, y⟩)) (a' := fun s => sbind (mS E (n + 7) .time s) fun y s => addS ⟨19, 0, 0, 0, x, y⟩ s) (by decide) (half 19 x)
          (Cont.adv (a := fun s => obind (runP E.P n .time s) fun y s => some (s.add ⟨21, 0, 0, 0, x, y⟩)) (a' := fun s => sbind (mS E (n + 7) .time s) fun y s => addS ⟨21, 0, 0, 0, x, y⟩ s) (by decide) (half 21 x) Cont.ok)
      exact Cont.bind (hr .or rfl m hm) two
    | pre =>
      have hm' : m + 1 ≤ 500000 := hm
      have R := hr .pre rfl
      have F := hr .formula rfl
      have un : ∀ (m1 : Nat) (nd : Nat → Nd), m1 + 2 ≤ 500000 → Cont E m1 (m1 + 2) (fun s => obind (runP E.P n .pre s) fun x s => some (s.add (nd x))) (fun s => sbind (mS E (n + 7) .pre s) fun x s => addS (nd x) s) :=
        fun m1 nd h => Cont.bind (R m1 (by omega)) (fun x => Cont.add (by omega))
      have cl : ∀ (m1 : Nat) (nd : Nat → Nd), m1 + 2 ≤ 500000 → Cont E m1 (m1 + 2) (fun s => expectP E.P ⟨#[93]⟩ s fun s => obind (runP E.P n .pre s) fun x s => some (s.add (nd x))) (fun s => sbind (mS E (n + 7) .pre (expectS E ⟨#[93]⟩ s)) fun x s => addS (nd x) s) :=
        fun m1 nd h => Cont.expect (k' := fun s => sbind (mS E (n + 7) .pre s) fun x s => addS (nd x) s) (by decide) (un m1 nd h)
      have ag : ∀ (m1 : Nat) (op : Int), m1 + 2 ≤ 500000 → Cont E m1 (m1 + 2) (fun s => expectP E.P ⟨#[91]⟩ s fun s => obind (some (nameP E.P 1 s)) fun a s => expectP E.P ⟨#[93]⟩ s fun s => obind (runP E.P n .pre s) fun x s => some (s.add ⟨op, a, 0, 0, x, 0⟩))
          (fun s => sbind (some (nameS E 1 (expectS E ⟨#[91]⟩ s))) fun a s => sbind (mS E (n + 7) .pre (expectS E ⟨#[93]⟩ s)) fun x s => addS ⟨op, a, 0, 0, x, 0⟩ s) :=
        fun m1 op h => Cont.expect (k' := fun s => sbind (some (nameS E 1 s)) fun a s => sbind (mS E (n + 7) .pre (expectS E ⟨#[93]⟩ s)) fun x s => addS ⟨op, a, 0, 0, x, 0⟩ s) (by decide)
          (Cont.bind Cont.name (fun a => cl m1 (fun x => ⟨op, a, 0, 0, x, 0⟩) h))
      have grp : ∀ (m1 m2 : Nat) (k : Nat → PSt → Option PRes) (k' : Nat → RunS), (∀ g, Cont E m1 m2 (k g) (k' g)) → Cont E m1 m2 (fun s => expectP E.P ⟨#[91]⟩ s fun s => obind (some (nameP E.P 1 s)) fun a s => obind (agentsL E.P (E.P.ws.length + 1) (2 ^ a) s) k)
          (fun s => sbind (some (nameS E 1 (expectS E ⟨#[91]⟩ s))) fun a s => sbind (agentsLS E (E.P.ws.length + 2) (2 ^ a) s) k') :=
        fun m1 m2 k k' h => Cont.expect (k' := fun s => sbind (some (nameS E 1 s)) fun a s => sbind (agentsLS E (E.P.ws.length + 2) (2 ^ a) s) k') (by decide) (Cont.bind Cont.name (fun a => Cont.bind Cont.agents h))
      have bar : ∀ (m1 m2 : Nat) (k : Nat → PSt → Option PRes) (k' : Nat → RunS), m1 + 1 ≤ 500000 → (∀ c, Cont E (m1 + 1) m2 (k c) (k' c)) → Cont E m1 m2 (fun s => if tkP E.P s = ⟨#[124]⟩ then obind (runP E.P n .formula s.adv) k else obind (some (s.add ⟨1, 0, 0, 0, 0, 0⟩)) k)
          (fun s => sbind (condS E (mS E (n + 7) .formula) s) k') := by
        intro m1 m2 k k' h hk
        have c1 : Cont E m1 (m1 + 1) (fun s => if tkP E.P s = ⟨#[124]⟩ then runP E.P n .formula s.adv else some (s.add ⟨1, 0, 0, 0, 0, 0⟩)) (condS E (mS E (n + 7) .formula)) :=
          Cont.adv (a := runP E.P n .formula) (a' := mS E (n + 7) .formula) (by decide) (fun m3 h3 => (F m3 (by omega)).mono (Nat.le_refl _) (by omega)) (Cont.add (by omega))
        have c2 := Cont.bind c1 hk
        refine ⟨fun s h0 hi => ?_, c2.bad⟩
        have c3 := c2.good s h0 hi
        have e : (if tkP E.P (absS s) = ⟨#[124]⟩ then obind (runP E.P n .formula (absS s).adv) k else obind (some ((absS s).add ⟨1, 0, 0, 0, 0, 0⟩)) k) = obind (if tkP E.P (absS s) = ⟨#[124]⟩ then runP E.P n .formula (absS s).adv else some ((absS s).add ⟨1, 0, 0, 0, 0, 0⟩)) k := by split <;> rfl
        have c4 : Sm E m2 (if tkP E.P (absS s) = ⟨#[124]⟩ then obind (runP E.P n .formula (absS s).adv) k else obind (some ((absS s).add ⟨1, 0, 0, 0, 0, 0⟩)) k) (sbind (condS E (mS E (n + 7) .formula) s) k') := by rw [e]; exact c3
        exact c4
      refine ⟨fun s h0 hi => ?_, bad_pre' (n := n + 7) m |> fun h s h0 hi => h s h0 hi (by omega)⟩
      show Sm E (m + 1) (runP E.P (n + 1) .pre (absS s)) (preS E (mS E (n + 7) .pre) (mS E (n + 7) .formula) s)
      unfold runP preS
      dsimp only
      rw [peekS_ok h0]
      have A : ∀ {w : ByteArray}, tkP E.P (absS s) = w → w.size ≠ 0 → ∃ m', m = m' + 3 ∧ InS E m' s.adv := fun hc hw => hi.adv (tk_lt hc hw)
      by_cases c1 : tkP E.P (absS s) = ⟨#[126]⟩
      · rw [if_pos c1, if_pos c1]
        obtain ⟨m', e, h⟩ := A c1 (by decide)
        exact Sm.mono ((un m' (fun x => ⟨4, 0, 0, 0, x, 0⟩) (by omega)).good s.adv h0 h) (by omega)
      rw [if_neg c1, if_neg c1]
      by_cases c2 : tkP E.P (absS s) = ⟨#[110, 101, 120, 116]⟩
      · rw [if_pos c2, if_pos c2]
        obtain ⟨m', e, h⟩ := A c2 (by decide)
        exact Sm.mono ((un m' (fun x => ⟨18, 0, 0, 0, x, 0⟩) (by omega)).good s.adv h0 h) (by omega)
      rw [if_neg c2, if_neg c2]
      by_cases c3 : tkP E.P (absS s) = ⟨#[112, 114, 101, 118]⟩
      · rw [if_pos c3, if_pos c3]
        obtain ⟨m', e, h⟩ := A c3 (by decide)
        exact Sm.mono ((un m' (fun x => ⟨20, 0, 0, 0, x, 0⟩) (by omega)).good s.adv h0 h) (by omega)
      rw [if_neg c3, if_neg c3]
      by_cases c4 : tkP E.P (absS s) = ⟨#[75]⟩
      · rw [if_pos c4, if_pos c4]
        obtain ⟨m', e, h⟩ := A c4 (by decide)
        exact Sm.mono ((ag m' 9 (by omega)).good s.adv h0 h) (by omega)
      rw [if_neg c4, if_neg c4]
      by_cases c5 : tkP E.P (absS s) = ⟨#[77]⟩
      · rw [if_pos c5, if_pos c5]
        obtain ⟨m', e, h⟩ := A c5 (by decide)
        exact Sm.mono ((ag m' 10 (by omega)).good s.adv h0 h) (by omega)
      rw [if_neg c5, if_neg c5]
      by_cases c6 : tkP E.P (absS s) = ⟨#[83]⟩
      · rw [if_pos c6, if_pos c6]
        obtain ⟨m', e, h⟩ := A c6 (by decide)
        exact Sm.mono ((ag m' 15 (by omega)).good s.adv h0 h) (by omega)
      rw [if_neg c6, if_neg c6]
      by_cases c7 : tkP E.P (absS s) = ⟨#[66]⟩
      · rw [if_pos c7, if_pos c7]
        obtain ⟨m', e, h⟩ := A c7 (by decide)
        have C : Cont E m' (m' + 3) (fun s => expectP E.P ⟨#[91]⟩ s fun s => obind (some (nameP E.P 1 s)) fun a s => if tkP E.P s = ⟨#[124]⟩ then obind (runP E.P n .formula s.adv) (fun c s => expectP E.P ⟨#[93]⟩ s fun s => obind (runP E.P n .pre s) fun x s => some (s.add ⟨14, a, 0, 0, c, x⟩)) else obind (some (s.add ⟨1, 0, 0, 0, 0, 0⟩)) (fun c s => expectP E.P ⟨#[93]⟩ s fun s => obind (runP E.P n .pre s) fun x s => some (s.add ⟨14, a, 0, 0, c, x⟩)))
            (fun s => sbind (some (nameS E 1 (expectS E ⟨#[91]⟩ s))) fun a s => sbind (condS E (mS E (n + 7) .formula) s) fun c s => sbind (mS E (n + 7) .pre (expectS E ⟨#[93]⟩ s)) fun x s => addS ⟨14, a, 0, 0, c, x⟩ s) :=
          Cont.expect (k' := fun s => sbind (some (nameS E 1 s)) fun a s => sbind (condS E (mS E (n + 7) .formula) s) fun c s => sbind (mS E (n + 7) .pre (expectS E ⟨#[93]⟩ s)) fun x s => addS ⟨14, a, 0, 0, c, x⟩ s) (by decide)
            (Cont.bind Cont.name (fun a => bar m' (m' + 3) _ _ (by omega) (fun c => cl (m' + 1) (fun x => ⟨14, a, 0, 0, c, x⟩) (by omega))))
        exact Sm.mono (C.good s.adv h0 h) (by omega)
      rw [if_neg c7, if_neg c7]
      by_cases c8 : tkP E.P (absS s) = ⟨#[69]⟩
      · rw [if_pos c8, if_pos c8]
        obtain ⟨m', e, h⟩ := A c8 (by decide)
        exact Sm.mono ((grp m' (m' + 2) _ _ (fun g => cl m' (fun x => ⟨11, 0, 0, g, x, 0⟩) (by omega))).good s.adv h0 h) (by omega)
      rw [if_neg c8, if_neg c8]
      by_cases c9 : tkP E.P (absS s) = ⟨#[68]⟩
      · rw [if_pos c9, if_pos c9]
        obtain ⟨m', e, h⟩ := A c9 (by decide)
        exact Sm.mono ((grp m' (m' + 2) _ _ (fun g => cl m' (fun x => ⟨12, 0, 0, g, x, 0⟩) (by omega))).good s.adv h0 h) (by omega)
      rw [if_neg c9, if_neg c9]
      by_cases c10 : tkP E.P (absS s) = ⟨#[67]⟩
      · rw [if_pos c10, if_pos c10]
        obtain ⟨m', e, h⟩ := A c10 (by decide)
        exact Sm.mono ((grp m' (m' + 3) _ _ (fun g => bar m' (m' + 3) _ _ (by omega) (fun c => cl (m' + 1) (fun x => ⟨13, 0, 0, g, c, x⟩) (by omega)))).good s.adv h0 h) (by omega)
      rw [if_neg c10, if_neg c10]
      by_cases c11 : tkP E.P (absS s) = ⟨#[91]⟩
      · rw [if_pos c11, if_pos c11]
        obtain ⟨m', e, h⟩ := A c11 (by decide)
        have C : Cont E m' (m' + 2) (fun s => if tkP E.P s = ⟨#[33]⟩ then obind (runP E.P n .formula s.adv) fun c s => expectP E.P ⟨#[93]⟩ s fun s => obind (runP E.P n .pre s) fun x s => some (s.add ⟨16, 0, 0, 0, c, x⟩)
              else obind (some (nameP E.P 2 s)) fun a s => expectP E.P ⟨#[46]⟩ s fun s => obind (some (numberP E.P s)) fun e s => expectP E.P ⟨#[93]⟩ s fun s => obind (runP E.P n .pre s) fun x s => some (s.add ⟨17, a, e, 0, x, 0⟩))
            (fun s => if peekS E s = ⟨#[33]⟩ then announceS E (mS E (n + 7) .pre) (mS E (n + 7) .formula) s.adv else actS E (mS E (n + 7) .pre) s) :=
          Cont.adv (a := fun s => obind (runP E.P n .formula s) fun c s => expectP E.P ⟨#[93]⟩ s fun s => obind (runP E.P n .pre s) fun x s => some (s.add ⟨16, 0, 0, 0, c, x⟩)) (a' := announceS E (mS E (n + 7) .pre) (mS E (n + 7) .formula)) (by decide)
            (fun m1 h1 => (Cont.bind (F m1 (by omega)) (fun c => cl (m1 + 1) (fun x => ⟨16, 0, 0, 0, c, x⟩) (by omega))).mono (Nat.le_refl _) (by omega))
            (show Cont E m' (m' + 2) _ (fun s => sbind (some (nameS E 2 s)) fun a s => sbind (some (eventS E (expectS E ⟨#[46]⟩ s))) fun e s => sbind (mS E (n + 7) .pre (expectS E ⟨#[93]⟩ s)) fun x s => addS ⟨17, a, e, 0, x, 0⟩ s) from
              Cont.bind Cont.name (fun a => Cont.expect (k' := fun s => sbind (some (eventS E s)) fun e s => sbind (mS E (n + 7) .pre (expectS E ⟨#[93]⟩ s)) fun x s => addS ⟨17, a, e, 0, x, 0⟩ s) (by decide)
                (Cont.bind Cont.event (fun e => cl m' (fun x => ⟨17, a, e, 0, x, 0⟩) (by omega)))))
        exact Sm.mono (C.good s.adv h0 h) (by omega)
      rw [if_neg c11, if_neg c11]
      by_cases c12 : tkP E.P (absS s) = ⟨#[116, 114, 117, 101]⟩
      · rw [if_pos c12, if_pos c12]
        obtain ⟨m', e, h⟩ := A c12 (by decide)
        exact Sm.mono (Sm.add (s := s.adv) h0 h (by omega)) (by omega)
      rw [if_neg c12, if_neg c12]
      by_cases c13 : tkP E.P (absS s) = ⟨#[102, 97, 108, 115, 101]⟩
      · rw [if_pos c13, if_pos c13]
        obtain ⟨m', e, h⟩ := A c13 (by decide)
        exact Sm.mono (Sm.add (s := s.adv) h0 h (by omega)) (by omega)
      rw [if_neg c13, if_neg c13]
      by_cases c14 : tkP E.P (absS s) = ⟨#[40]⟩
      · rw [if_pos c14, if_pos c14]
        obtain ⟨m', e, h⟩ := A c14 (by decide)
        have C : Cont E m' (m' + 1) (fun s => obind (runP E.P n .formula s) fun x s => expectP E.P ⟨#[41]⟩ s fun s => some (.ok x s)) (fun s => sbind (mS E (n + 7) .formula s) fun x s => some (x, expectS E ⟨#[41]⟩ s)) :=
          Cont.bind (F m' (by omega)) (fun x => Cont.expect (k' := fun s => some (x, s)) (by decide) Cont.ok)
        exact Sm.mono (C.good s.adv h0 h) (by omega)
      rw [if_neg c14, if_neg c14]
      exact (show Cont E m (m + 1) (fun s => obind (some (nameP E.P 0 s)) fun a s => some (s.add ⟨3, a, 0, 0, 0, 0⟩)) (fun s => sbind (some (nameS E 0 s)) fun a s => addS ⟨3, a, 0, 0, 0, 0⟩ s) from Cont.bind Cont.name (fun a => Cont.add (by omega))).good s h0 hi
/-- what the machine leaves for a text of at most 4000 tokens -/
theorem machine_end (E : SEnv) (hl : E.P.ws.length ≤ 4000) : ∃ v s', mS E (10 * E.P.ws.length + 14) .formula ⟨0, [], 0, 0⟩ = some (v, s') ∧ InS E (3 * E.P.ws.length + 1) s' ∧
    ∀ r, runP E.P (10 * E.P.ws.length + 7) .formula ⟨0, []⟩ = some r → (match r with | .ok v0 s0 => v = v0 ∧ s'.e = 0 ∧ absS s' = s0 | .err t e => e ≠ 0 ∧ s'.e = e ∧ s'.po = posS E t) := by
  obtain ⟨r, hr, _, _⟩ := run_total E.P (10 * E.P.ws.length + 7) .formula ⟨0, []⟩ (by simp [Rule.rank])
  have hS := (run_sim E (10 * E.P.ws.length + 7) .formula (3 * E.P.ws.length) (by show 3 * E.P.ws.length + 1 ≤ 500000; omega)).good ⟨0, [], 0, 0⟩ rfl ⟨Nat.zero_le _, by show 0 + 3 * (E.P.ws.length - 0) ≤ _; omega⟩
  obtain ⟨v, s', h1, h2, h3⟩ := hS r hr
  refine ⟨v, s', h1, h2, fun r' hr' => ?_⟩
  rw [hr] at hr'
  injection hr' with hr'
  rw [← hr']
  exact h3
end Go.Proofs.Ws
