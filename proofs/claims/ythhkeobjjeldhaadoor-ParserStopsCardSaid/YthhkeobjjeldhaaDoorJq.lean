/- Layer 6: texts joined: Tg Tx. -/
import Derived.Test.YthhkeobjjeldhaaDoorJa
import Derived.Test.YthhkeobjjeldhaaDoorJm
import Derived.Test.YthhkeobjjeldhaaDoorJo
/- Layer 6 as plain mathematics: an error depends on the tokens up to it. -/
namespace Go.Proofs.Ws
open Go
theorem run_lo {E : PEnv} {n : Nat} {rule : Rule} {s : PSt} {r : PRes} (h : runP E n rule s = some r) : (∀ v s', r = .ok v s' → s.next ≤ s'.next) ∧ ∀ t e, r = .err t e → s.next ≤ t := by
  obtain ⟨r', h1, h2, h3⟩ := run_total E (n + (10 * (E.ws.length - s.next) + rule.rank)) rule s (by omega)
  have := run_fuel E (Nat.le_add_right n (10 * (E.ws.length - s.next) + rule.rank)) rule s r h
  rw [h1] at this
  injection this with this
  rw [← this]
  exact ⟨h2, h3⟩
/-- the same tokens up to T -/
structure Agr (E E' : PEnv) (T : Nat) : Prop where
  a : E'.A = E.A
  f : E'.F = E.F
  x : E'.X = E.X
  ws : ∀ p, p ≤ T → E'.ws.getD p ByteArray.empty = E.ws.getD p ByteArray.empty
  lt : T < E'.ws.length
def LB (T m : Nat) (o o' : Option PRes) : Prop := (∀ v s', o = some (.ok v s') → m ≤ s'.next) ∧ (∀ t e, o = some (.err t e) → m ≤ t) ∧
  (m ≤ T → (∀ v s', o = some (.ok v s') → s'.next ≤ T → o' = some (.ok v s')) ∧ ∀ e, o = some (.err T e) → o' = some (.err T e))
theorem LB.mono {T m m' : Nat} {o o' : Option PRes} (h : LB T m o o') (hm : m' ≤ m) : LB T m' o o' := by
  obtain ⟨h1, h2, h3⟩ := h
  refine ⟨fun v s' e => Nat.le_trans hm (h1 v s' e), fun t e h => Nat.le_trans hm (h2 t e h), fun _ => ?_⟩
  by_cases hT : m ≤ T
  · exact h3 hT
  · exact ⟨fun v s' e hs => absurd (h1 v s' e) (by omega), fun e h => absurd (h2 T e h) (by omega)⟩
theorem LB.none {T m : Nat} {o' : Option PRes} : LB T m none o' := ⟨(fun v s' e => by cases e), (fun t e h => by cases h), fun _ => ⟨(fun v s' e => by cases e), fun e h => by cases h⟩⟩
theorem LB.bind {T m : Nat} {a a' : Option PRes} {k k' : Nat → PSt → Option PRes} (h : LB T m a a') (hk : ∀ v s, m ≤ s.next → LB T s.next (k v s) (k' v s)) : LB T m (obind a k) (obind a' k') := by
  obtain ⟨h1, h2, h3⟩ := h
  cases ha : a with
  | none => exact LB.none
  | some x =>
    rw [ha] at h1 h2 h3
    cases x with
    | err t e =>
      refine ⟨(fun v s' h => by injection h with h; cases h), (fun t' e' h => by injection h with h; injection h with h4 _; rw [← h4]; exact h2 t e rfl), fun hm => ⟨(fun v s' h => by injection h with h; cases h), fun e' h => ?_⟩⟩
      injection h with h
      injection h with h4 h5
      subst h4
      rw [(h3 hm).2 e rfl, h5]
      rfl
    | ok v1 s1 =>
      have hm1 := h1 v1 s1 rfl
      obtain ⟨k1, k2, k3⟩ := hk v1 s1 hm1
      refine ⟨fun v s' h => Nat.le_trans hm1 (k1 v s' h), fun t e h => Nat.le_trans hm1 (k2 t e h), fun hm => ?_⟩
      by_cases hT : s1.next ≤ T
      · rw [(h3 hm).1 v1 s1 rfl hT]
        exact k3 hT
      · exact ⟨fun v s' h hs => absurd (k1 v s' h) (by omega), fun e h => absurd (k2 T e h) (by omega)⟩
theorem LB.err {T m t : Nat} {e : Int} (h : m ≤ t) : LB T m (some (.err t e)) (some (.err t e)) :=
  ⟨fun v s' h => (by injection h with h; cases h), fun t' e' h' => (by injection h' with h'; injection h' with h4 _; rw [← h4]; exact h), fun _ => ⟨fun v s' h _ => h, fun e h => h⟩⟩
theorem LB.ok {T m v : Nat} {s : PSt} (h : m ≤ s.next) : LB T m (some (.ok v s)) (some (.ok v s)) :=
  ⟨fun v' s' h' => (by injection h' with h'; injection h' with _ h4; rw [← h4]; exact h), fun t e h => (by injection h with h; cases h), fun _ => ⟨fun v s' h _ => h, fun e h => h⟩⟩
theorem LB.add {T m : Nat} {s : PSt} {n : Nd} (h : m ≤ s.next) : LB T m (some (s.add n)) (some (s.add n)) := LB.ok h
theorem Agr.tk {E E' : PEnv} {T : Nat} (h : Agr E E' T) {s : PSt} (hl : s.next ≤ T) : tkP E' s = tkP E s := h.ws s.next hl
theorem LB.ite {E E' : PEnv} {T : Nat} (hE : Agr E E' T) {w : ByteArray} {s : PSt} {a a' b b' : Option PRes} (ha : LB T s.next a a') (hb : LB T s.next b b') : LB T s.next (if tkP E s = w then a else b) (if tkP E' s = w then a' else b') := by
  by_cases hT : s.next ≤ T
  · rw [hE.tk hT]
    split
    · exact ha
    · exact hb
  · split
    · exact ⟨ha.1, ha.2.1, fun h => absurd h hT⟩
    · exact ⟨hb.1, hb.2.1, fun h => absurd h hT⟩
theorem LB.far {T m : Nat} {o o' o2 : Option PRes} (h : LB T m o o') (hm : ¬ m ≤ T) : LB T m o o2 := ⟨h.1, h.2.1, fun h => absurd h hm⟩
theorem LB.expect {E E' : PEnv} {T : Nat} (hE : Agr E E' T) {w : ByteArray} {s : PSt} {k k' : PSt → Option PRes} (hk : LB T (s.next + 1) (k s.adv) (k' s.adv)) : LB T s.next (expectP E w s k) (expectP E' w s k') :=
  LB.ite hE (hk.mono (Nat.le_succ _)) (LB.err (Nat.le_refl _))
theorem LB.name {E E' : PEnv} {T : Nat} (hE : Agr E E' T) {what : Nat} {s : PSt} : LB T s.next (some (nameP E what s)) (some (nameP E' what s)) := by
  have key : ∀ (b : Bool) (z : Int), LB T s.next (some (if b = false then PRes.err s.next 4 else if z < 0 then .err s.next 5 else .ok z.toNat s.adv)) (some (if b = false then PRes.err s.next 4 else if z < 0 then .err s.next 5 else .ok z.toNat s.adv)) := by
    intro b z
    split
    · exact LB.err (Nat.le_refl _)
    · split
      · exact LB.err (Nat.le_refl _)
      · exact LB.ok (s := s.adv) (Nat.le_succ _)
  unfold nameP
  by_cases hT : s.next ≤ T
  · rw [hE.tk hT, hE.a, hE.f, hE.x]
    exact key _ _
  · exact (key _ _).far hT
theorem LB.number {E E' : PEnv} {T : Nat} (hE : Agr E E' T) {s : PSt} : LB T s.next (some (numberP E s)) (some (numberP E' s)) := by
  have key : ∀ w : ByteArray, LB T s.next (some (if (decide (w.size ≠ 0) && digN (headN w)) = false then PRes.err s.next 4 else if 1 < w.size ∨ 8 ≤ headN w - 48 then .err s.next 2 else .ok (headN w - 48) s.adv))
      (some (if (decide (w.size ≠ 0) && digN (headN w)) = false then PRes.err s.next 4 else if 1 < w.size ∨ 8 ≤ headN w - 48 then .err s.next 2 else .ok (headN w - 48) s.adv)) := by
    intro w
    split
    · exact LB.err (Nat.le_refl _)
    · split
      · exact LB.err (Nat.le_refl _)
      · exact LB.ok (s := s.adv) (Nat.le_succ _)
  unfold numberP
  by_cases hT : s.next ≤ T
  · rw [hE.tk hT]
    exact key _
  · exact (key _).far hT
theorem LB.agents {E E' : PEnv} {T : Nat} (hE : Agr E E' T) : ∀ (n m g : Nat) (s : PSt), T < s.next + m → LB T s.next (agentsL E n g s) (agentsL E' m g s) := by
  intro n
  induction n with
  | zero => intro m g s _; exact LB.none
  | succ n ih =>
    intro m g s hm
    have step : ∀ m', T < s.next + 1 + m' → LB T s.next (agentsL E (n + 1) g s) (agentsL E' (m' + 1) g s) := by
      intro m' hm'
      unfold agentsL
      refine LB.ite hE ?_ (LB.ok (Nat.le_refl _))
      have hn := LB.name (T := T) (what := 1) (s := s.adv) hE
      by_cases hT : s.next + 1 ≤ T
      · have e : nameP E' 1 s.adv = nameP E 1 s.adv := by
          unfold nameP
          rw [hE.tk (s := s.adv) hT, hE.a, hE.f, hE.x]
        rw [e]
        cases hr : nameP E 1 s.adv with
        | err t e =>
          have h1 : s.next + 1 ≤ t := hn.2.1 t e (by rw [hr])
          exact LB.err (by omega)
        | ok b s1 =>
          have h1 : s.next + 1 ≤ s1.next := hn.1 b s1 (by rw [hr])
          show LB T s.next (if g.testBit b = true then some (.err (s.next + 1) 7) else agentsL E n (g ||| 2 ^ b) s1) (if g.testBit b = true then some (.err (s.next + 1) 7) else agentsL E' m' (g ||| 2 ^ b) s1)
          split
          · exact LB.err (Nat.le_succ _)
          · exact (ih m' _ s1 (by omega)).mono (by omega)
      · refine LB.mono (m := s.next + 1) (LB.far (o' := obind (some (nameP E 1 s.adv)) fun b s' => if g.testBit b = true then some (.err (s.next + 1) 7) else agentsL E n (g ||| 2 ^ b) s') ?_ hT) (Nat.le_succ _)
        cases hr : nameP E 1 s.adv with
        | err t e =>
          have h1 : s.next + 1 ≤ t := hn.2.1 t e (by rw [hr])
          exact LB.err h1
        | ok b s1 =>
          have h1 : s.next + 1 ≤ s1.next := hn.1 b s1 (by rw [hr])
          show LB T (s.next + 1) (if g.testBit b = true then some (.err (s.next + 1) 7) else agentsL E n (g ||| 2 ^ b) s1) (if g.testBit b = true then some (.err (s.next + 1) 7) else agentsL E n (g ||| 2 ^ b) s1)
          split
          · exact LB.err (Nat.le_refl _)
          · exact ((ih (T + 1) (g ||| 2 ^ b) s1 (by omega)).mono h1).far (by omega)
    cases m with
    | zero => exact (step (T + 1) (by omega)).far (by omega)
    | succ m => exact step m (by omega)
theorem run_loc {E E' : PEnv} {T : Nat} (hE : Agr E E' T) : ∀ (n : Nat) (rule : Rule) (s : PSt), LB T s.next (runP E n rule s) (runP E' n rule s) := by
  intro n
  induction n with
  | zero => intro rule s; exact LB.none
  | succ n ih =>
    intro rule s
    have opL : ∀ {op : Int} {x m : Nat} {r : Rule} (s1 : PSt), m ≤ s1.next → LB T m (obind (runP E n r s1.adv) fun y s => some (s.add ⟨op, 0, 0, 0, x, y⟩)) (obind (runP E' n r s1.adv) fun y s => some (s.add ⟨op, 0, 0, 0, x, y⟩)) :=
      fun s1 h => (LB.bind (ih _ s1.adv) (fun y s2 h2 => LB.add (Nat.le_refl _))).mono (Nat.le_trans h (Nat.le_succ _))
    have loopL : ∀ {sg : ByteArray} {op : Int} {x : Nat} {r : Rule} {kk : Nat → Rule},
        LB T s.next (if tkP E s = sg then obind (runP E n r s.adv) fun y s => obind (some (s.add ⟨op, 0, 0, 0, x, y⟩)) fun a s => runP E n (kk a) s else some (.ok x s))
          (if tkP E' s = sg then obind (runP E' n r s.adv) fun y s => obind (some (s.add ⟨op, 0, 0, 0, x, y⟩)) fun a s => runP E' n (kk a) s else some (.ok x s)) :=
      LB.ite hE ((LB.bind (ih _ s.adv) (fun y s1 h1 => LB.bind (LB.add (Nat.le_refl _)) (fun a s2 h2 => ih _ s2))).mono (Nat.le_succ _)) (LB.ok (Nat.le_refl _))
    cases rule with
    | formula => exact LB.bind (ih .implies s) (fun x s1 h1 => ih (.iffL x) s1)
    | or => exact LB.bind (ih .and s) (fun x s1 h1 => ih (.orL x) s1)
    | and => exact LB.bind (ih .pre s) (fun x s1 h1 => ih (.andL x) s1)
    | iffL x => exact loopL (r := .implies) (kk := .iffL)
    | orL x => exact loopL (r := .and) (kk := .orL)
    | andL x => exact loopL (r := .pre) (kk := .andL)
    | implies => exact LB.bind (ih .time s) (fun x s1 h1 => LB.ite hE (opL s1 (Nat.le_refl _)) (LB.ok (Nat.le_refl _)))
    | time => exact LB.bind (ih .or s) (fun x s1 h1 => LB.ite hE (opL s1 (Nat.le_refl _)) (LB.ite hE (opL s1 (Nat.le_refl _)) (LB.ok (Nat.le_refl _))))
    | pre =>
      have un : ∀ {op i e g : Int} (s1 : PSt), LB T s1.next (obind (runP E n .pre s1) fun x s => some (s.add ⟨op, i, e, g, x, 0⟩)) (obind (runP E' n .pre s1) fun x s => some (s.add ⟨op, i, e, g, x, 0⟩)) := fun s1 => LB.bind (ih _ s1) (fun x s2 h2 => LB.add (Nat.le_refl _))
      have bar : ∀ {s1 : PSt} {f f' : Nat → PSt → Option PRes}, (∀ c s2, LB T s2.next (f c s2) (f' c s2)) → LB T s1.next (if tkP E s1 = ⟨#[124]⟩ then obind (runP E n .formula s1.adv) f else obind (some (s1.add ⟨1, 0, 0, 0, 0, 0⟩)) f) (if tkP E' s1 = ⟨#[124]⟩ then obind (runP E' n .formula s1.adv) f' else obind (some (s1.add ⟨1, 0, 0, 0, 0, 0⟩)) f') :=
        fun hk => LB.ite hE ((LB.bind (ih .formula _) (fun c s2 _ => hk c s2)).mono (Nat.le_succ _)) (LB.bind (LB.add (Nat.le_refl _)) (fun c s2 _ => hk c s2))
      have bin : ∀ {op i g : Int} {c : Nat} {s1 : PSt}, LB T s1.next (expectP E ⟨#[93]⟩ s1 fun s => obind (runP E n .pre s) fun x s => some (s.add ⟨op, i, 0, g, c, x⟩)) (expectP E' ⟨#[93]⟩ s1 fun s => obind (runP E' n .pre s) fun x s => some (s.add ⟨op, i, 0, g, c, x⟩)) := fun {op i g c s1} => LB.expect hE (LB.bind (ih .pre s1.adv) (fun x s3 h3 => LB.add (Nat.le_refl _)))
      have cl : ∀ {op i e g : Int} {s1 : PSt}, LB T s1.next (expectP E ⟨#[93]⟩ s1 fun s => obind (runP E n .pre s) fun x s => some (s.add ⟨op, i, e, g, x, 0⟩)) (expectP E' ⟨#[93]⟩ s1 fun s => obind (runP E' n .pre s) fun x s => some (s.add ⟨op, i, e, g, x, 0⟩)) := fun {op i e g s1} => LB.expect hE (un s1.adv)
      have ags : ∀ {a : Nat} {s1 : PSt}, LB T s1.next (agentsL E (E.ws.length + 1) (2 ^ a) s1) (agentsL E' (E'.ws.length + 1) (2 ^ a) s1) := LB.agents hE _ _ _ _ (by have := hE.lt; omega)
      have ag : ∀ {op : Int}, LB T (s.next + 1) (expectP E ⟨#[91]⟩ s.adv fun s => obind (some (nameP E 1 s)) fun a s => expectP E ⟨#[93]⟩ s fun s => obind (runP E n .pre s) fun x s => some (s.add ⟨op, a, 0, 0, x, 0⟩)) (expectP E' ⟨#[91]⟩ s.adv fun s => obind (some (nameP E' 1 s)) fun a s => expectP E' ⟨#[93]⟩ s fun s => obind (runP E' n .pre s) fun x s => some (s.add ⟨op, a, 0, 0, x, 0⟩)) :=
        LB.expect (s := s.adv) hE (LB.bind (LB.name (s := s.adv.adv) hE) (fun a s2 h2 => cl))
      have gr : ∀ {op : Int}, LB T (s.next + 1) (expectP E ⟨#[91]⟩ s.adv fun s => obind (some (nameP E 1 s)) fun a s => obind (agentsL E (E.ws.length + 1) (2 ^ a) s) fun g s => expectP E ⟨#[93]⟩ s fun s => obind (runP E n .pre s) fun x s => some (s.add ⟨op, 0, 0, g, x, 0⟩)) (expectP E' ⟨#[91]⟩ s.adv fun s => obind (some (nameP E' 1 s)) fun a s => obind (agentsL E' (E'.ws.length + 1) (2 ^ a) s) fun g s => expectP E' ⟨#[93]⟩ s fun s => obind (runP E' n .pre s) fun x s => some (s.add ⟨op, 0, 0, g, x, 0⟩)) :=
        LB.expect (s := s.adv) hE (LB.bind (LB.name (s := s.adv.adv) hE) (fun a s2 h2 => LB.bind ags (fun g s3 h3 => cl)))
      rw [runP, runP]
      dsimp only
      have le1 : s.next ≤ s.next + 1 := Nat.le_succ _
      refine LB.ite hE ((un s.adv).mono le1) ?_
      refine LB.ite hE ((un s.adv).mono le1) ?_
      refine LB.ite hE ((un s.adv).mono le1) ?_
      refine LB.ite hE (ag.mono le1) ?_
      refine LB.ite hE (ag.mono le1) ?_
      refine LB.ite hE (ag.mono le1) ?_
      refine LB.ite hE (LB.mono (m := s.next + 1) (LB.expect (s := s.adv) hE (LB.bind (LB.name (s := s.adv.adv) hE) (fun a s2 h2 => bar (fun c s3 => bin)))) le1) ?_
      refine LB.ite hE (gr.mono le1) ?_
      refine LB.ite hE (gr.mono le1) ?_
      refine LB.ite hE (LB.mono (m := s.next + 1) (LB.expect (s := s.adv) hE (LB.bind (LB.name (s := s.adv.adv) hE) (fun a s2 h2 => LB.bind ags (fun g s3 h3 => bar (fun c s4 => bin))))) le1) ?_
      refine LB.ite hE (LB.mono (m := s.next + 1) (LB.ite (s := s.adv) hE ((LB.bind (ih .formula s.adv.adv) (fun c s1 h1 => bin)).mono (Nat.le_succ _)) (LB.bind (LB.name (s := s.adv) hE) (fun a s1 h1 => LB.expect hE (LB.bind (LB.number (s := s1.adv) hE) (fun e s3 h3 => cl))))) le1) ?_
      refine LB.ite hE (LB.mono (m := s.next + 1) (LB.add (s := s.adv) (Nat.le_refl _)) le1) ?_
      refine LB.ite hE (LB.mono (m := s.next + 1) (LB.add (s := s.adv) (Nat.le_refl _)) le1) ?_
      refine LB.ite hE (LB.mono (m := s.next + 1) (LB.bind (ih .formula s.adv) (fun x s1 h1 => LB.expect hE (LB.ok (Nat.le_refl _)))) le1) ?_
      exact LB.bind (LB.name hE) (fun a s1 h1 => LB.add (Nat.le_refl _))
end Go.Proofs.Ws
/- Layer 6 as plain mathematics: an error depends on the tokens up to it. -/
namespace Go.Proofs.Ws
open Go
def N5 (L : Nat) (o : Option PRes) : Prop := ∀ t, o = some (.err t 5) → t < L
theorem N5.bind {L : Nat} {a : Option PRes} {k : Nat → PSt → Option PRes} (h : N5 L a) (hk : ∀ v s, N5 L (k v s)) : N5 L (obind a k) := by
  intro t ht
  cases a with
  | none => cases ht
  | some r =>
    cases r with
    | ok v s => exact hk v s t ht
    | err t' e => exact h t ht
theorem N5.ok {L v : Nat} {s : PSt} : N5 L (some (.ok v s)) := fun t h => by injection h with h; cases h
theorem N5.err {L t : Nat} {e : Int} (he : e ≠ 5) : N5 L (some (.err t e)) := fun t h => by injection h with h; injection h with _ h2; exact absurd h2 he
theorem N5.add {L : Nat} {s : PSt} {n : Nd} : N5 L (some (s.add n)) := N5.ok
theorem N5.ite {L : Nat} {c : Prop} [Decidable c] {a b : Option PRes} (h1 : N5 L a) (h2 : N5 L b) : N5 L (if c then a else b) := by split <;> assumption
theorem N5.expect {E : PEnv} {L : Nat} {w : ByteArray} {s : PSt} {k : PSt → Option PRes} (hk : ∀ s, N5 L (k s)) : N5 L (expectP E w s k) := N5.ite (hk _) (N5.err (by decide))
theorem N5.name {E : PEnv} {what : Nat} {s : PSt} : N5 E.ws.length (some (nameP E what s)) := by
  unfold nameP
  by_cases h1 : nameOk (tkP E s) = false
  · rw [if_pos h1]; exact N5.err (by decide)
  · rw [if_neg h1]
    have hl : s.next < E.ws.length := tk_lt (s := s) rfl (fun hz => h1 (by
      unfold nameOk
      rw [decide_eq_false (by rw [hz]; decide)]; rfl))
    by_cases h2 : Lib.idxOfS (if what = 0 then E.F else if what = 1 then E.A else E.X) (tkP E s) < 0
    · rw [if_pos h2]
      intro t ht
      injection ht with ht
      injection ht with ht _
      rw [← ht]; exact hl
    · rw [if_neg h2]; exact N5.ok
theorem N5.number {E : PEnv} {L : Nat} {s : PSt} : N5 L (some (numberP E s)) := by
  unfold numberP
  split
  · exact N5.err (by decide)
  · split
    · exact N5.err (by decide)
    · exact N5.ok
theorem N5.agents {E : PEnv} : ∀ (n g : Nat) (s : PSt), N5 E.ws.length (agentsL E n g s) := by
  intro n
  induction n with
  | zero => intro g s t h; exact absurd h (by simp [agentsL])
  | succ n ih =>
    intro g s
    unfold agentsL
    refine N5.ite (N5.bind N5.name (fun b s' => N5.ite (N5.err (by decide)) (ih _ _))) N5.ok
theorem run_n5 (E : PEnv) : ∀ (n : Nat) (rule : Rule) (s : PSt), N5 E.ws.length (runP E n rule s) := by
  intro n
  induction n with
  | zero => intro rule s t h; exact absurd h (by simp [runP])
  | succ n ih =>
    intro rule s
    cases rule with
    | formula => exact N5.bind (ih _ _) (fun x s => ih _ _)
    | or => exact N5.bind (ih _ _) (fun x s => ih _ _)
    | and => exact N5.bind (ih _ _) (fun x s => ih _ _)
    | iffL x => exact N5.ite (N5.bind (ih _ _) (fun y s => N5.bind N5.add (fun k s => ih _ _))) N5.ok
    | orL x => exact N5.ite (N5.bind (ih _ _) (fun y s => N5.bind N5.add (fun k s => ih _ _))) N5.ok
    | andL x => exact N5.ite (N5.bind (ih _ _) (fun y s => N5.bind N5.add (fun k s => ih _ _))) N5.ok
    | implies => unfold runP; exact N5.bind (ih _ _) (fun x s => N5.ite (N5.bind (ih _ _) (fun y s => N5.add)) N5.ok)
    | time => unfold runP; exact N5.bind (ih _ _) (fun x s => N5.ite (N5.bind (ih _ _) (fun y s => N5.add)) (N5.ite (N5.bind (ih _ _) (fun y s => N5.add)) N5.ok))
    | pre =>
      have un : ∀ (op i e g : Int) (s : PSt), N5 E.ws.length (obind (runP E n .pre s) fun x s => some (s.add ⟨op, i, e, g, x, 0⟩)) := fun op i e g s => N5.bind (ih _ _) (fun x s => N5.add)
      have cl : ∀ (op i e g : Int) (s : PSt), N5 E.ws.length (expectP E ⟨#[93]⟩ s fun s => obind (runP E n .pre s) fun x s => some (s.add ⟨op, i, e, g, x, 0⟩)) := fun op i e g s => N5.expect (fun s => un op i e g s)
      have two : ∀ (op i g : Int) (c : Nat) (s : PSt), N5 E.ws.length (expectP E ⟨#[93]⟩ s fun s => obind (runP E n .pre s) fun x s => some (s.add ⟨op, i, 0, g, c, x⟩)) := fun op i g c s => N5.expect (fun s => N5.bind (ih _ _) (fun x s => N5.add))
      have ag : ∀ (op : Int), N5 E.ws.length (expectP E ⟨#[91]⟩ s.adv fun s => obind (some (nameP E 1 s)) fun a s => expectP E ⟨#[93]⟩ s fun s => obind (runP E n .pre s) fun x s => some (s.add ⟨op, a, 0, 0, x, 0⟩)) := fun op => N5.expect (fun s => N5.bind N5.name (fun a s => cl op a 0 0 s))
      have gr : ∀ (op : Int), N5 E.ws.length (expectP E ⟨#[91]⟩ s.adv fun s => obind (some (nameP E 1 s)) fun a s => obind (agentsL E (E.ws.length + 1) (2 ^ a) s) fun g s => expectP E ⟨#[93]⟩ s fun s => obind (runP E n .pre s) fun x s => some (s.add ⟨op, 0, 0, g, x, 0⟩)) := fun op => N5.expect (fun s => N5.bind N5.name (fun a s => N5.bind (N5.agents _ _ _) (fun g s => cl op 0 0 g s)))
      have bar : ∀ (s : PSt) (k : Nat → PSt → Option PRes), (∀ c s, N5 E.ws.length (k c s)) → N5 E.ws.length (if tkP E s = ⟨#[124]⟩ then obind (runP E n .formula s.adv) k else obind (some (s.add ⟨1, 0, 0, 0, 0, 0⟩)) k) := fun s k hk => N5.ite (N5.bind (ih _ _) hk) (N5.bind N5.add hk)
      unfold runP
      dsimp only
      refine N5.ite (un 4 0 0 0 _) (N5.ite (un 18 0 0 0 _) (N5.ite (un 20 0 0 0 _) (N5.ite (ag 9) (N5.ite (ag 10) (N5.ite (ag 15) (N5.ite ?_ (N5.ite (gr 11) (N5.ite (gr 12) (N5.ite ?_ (N5.ite (N5.ite ?_ ?_) (N5.ite N5.add (N5.ite N5.add (N5.ite ?_ ?_)))))))))))))
      · exact N5.expect (fun s => N5.bind N5.name (fun a s => bar s _ (fun c s => two 14 a 0 c s)))
      · exact N5.expect (fun s => N5.bind N5.name (fun a s => N5.bind (N5.agents _ _ _) (fun g s => bar s _ (fun c s => two 13 0 g c s))))
      · exact N5.bind (ih _ _) (fun c s => two 16 0 0 c s)
      · exact N5.bind N5.name (fun a s => N5.expect (fun s => N5.bind N5.number (fun e s => cl 17 a e 0 s)))
      · exact N5.bind (ih _ _) (fun x s => N5.expect (fun s => N5.ok))
      · exact N5.bind N5.name (fun a s => N5.add)
/- tokens of a beginning of the text -/
theorem scan_take_ge (p : Nat → Bool) : ∀ (l : List UInt8) (q : Nat), scanL p l ≤ q → scanL p (l.take q) = scanL p l
  | [], q, _ => by simp
  | c :: l, q, h => by
    by_cases hp : p c.toNat = true
    · have e : scanL p (c :: l) = scanL p l + 1 := by
        show (if p c.toNat = true then scanL p l + 1 else 0) = scanL p l + 1
        rw [if_pos hp]
      rw [e] at h
      obtain ⟨q', rfl⟩ : ∃ q', q = q' + 1 := ⟨q - 1, by omega⟩
      rw [List.take_succ_cons, e]
      show (if p c.toNat = true then scanL p (l.take q') + 1 else 0) = scanL p l + 1
      rw [if_pos hp, scan_take_ge p l q' (by omega)]
    · have e : scanL p (c :: l) = 0 := by
        show (if p c.toNat = true then scanL p l + 1 else 0) = 0
        rw [if_neg hp]
      rw [e]
      cases q with
      | zero => rfl
      | succ q =>
        rw [List.take_succ_cons]
        show (if p c.toNat = true then scanL p (l.take q) + 1 else 0) = 0
        rw [if_neg hp]
theorem part_take_ge {l : List UInt8} {q : Nat} (h : partL l ≠ 0) (hq : partL l ≤ q) : partL (l.take q) = partL l := by
  cases l with
  | nil => exact absurd rfl h
  | cons c r =>
    obtain ⟨m, rfl⟩ : ∃ m, q = m + 1 := ⟨q - 1, by omega⟩
    have ht : (c :: r).take (m + 1) = c :: r.take m := rfl
    have h8 : ∀ t, partL (c :: t) = (if letN c.toNat = true then scanL wordN (c :: t) else if digN c.toNat = true then scanL digN (c :: t) else if [60, 45, 62] <+: (c :: t) then 3 else if [45, 62] <+: (c :: t) then 2 else if c.toNat ∈ markL then 1 else 0) := fun _ => rfl
    have h2 := h8 r
    by_cases h3 : letN c.toNat = true
    · rw [if_pos h3] at h2
      rw [h2] at hq ⊢
      rw [ht, h8, if_pos h3, ← ht, scan_take_ge _ _ _ hq]
    · rw [if_neg h3] at h2
      by_cases h4 : digN c.toNat = true
      · rw [if_pos h4] at h2
        rw [h2] at hq ⊢
        rw [ht, h8, if_neg h3, if_pos h4, ← ht, scan_take_ge _ _ _ hq]
      · rw [if_neg h4] at h2
        have pre : ∀ (p : List UInt8), p.length ≤ m + 1 → (p <+: (c :: r) ↔ p <+: (c :: r.take m)) := by
          intro p hp
          rw [← ht]
          rw [List.prefix_take_iff]
          exact ⟨fun h => ⟨h, hp⟩, fun h => h.1⟩
        by_cases h5 : [60, 45, 62] <+: (c :: r)
        · rw [if_pos h5] at h2
          rw [h2] at hq ⊢
          rw [ht, h8, if_neg h3, if_neg h4, if_pos ((pre [60, 45, 62] hq).1 h5)]
        · rw [if_neg h5] at h2
          have h5' : ¬ [60, 45, 62] <+: (c :: r.take m) := fun hh => h5 (by
            rw [← ht] at hh
            exact (List.prefix_take_iff.1 hh).1)
          by_cases h6 : [45, 62] <+: (c :: r)
          · rw [if_pos h6] at h2
            rw [h2] at hq ⊢
            rw [ht, h8, if_neg h3, if_neg h4, if_neg h5', if_pos ((pre [45, 62] hq).1 h6)]
          · rw [if_neg h6] at h2
            have h6' : ¬ [45, 62] <+: (c :: r.take m) := fun hh => h6 (by
              rw [← ht] at hh
              exact (List.prefix_take_iff.1 hh).1)
            rw [h2, ht, h8, if_neg h3, if_neg h4, if_neg h5', if_neg h6']
theorem TokR.cut {l : List UInt8} {i : Nat} {ts : List (List UInt8 × Nat)} (h : TokR l i ts) :
    ∀ T (hT : T < ts.length), ∃ q, q ≤ l.length ∧ (ts[T]).2 + (ts[T]).1.length = i + q ∧ TokR (l.take q) i (ts.take (T + 1)) := by
  induction h with
  | nil i => intro T hT; simp at hT
  | @space c r i ts hs _ ih =>
    intro T hT
    obtain ⟨q, h1, h2, h3⟩ := ih T hT
    exact ⟨q + 1, by simp; omega, by omega, TokR.space hs h3⟩
  | @word c r i ts hs hp hr ih =>
    intro T hT
    have hle := partL_le (c :: r)
    cases T with
    | zero =>
      refine ⟨partL (c :: r), hle, ?_, ?_⟩
      · show i + ((c :: r).take (partL (c :: r))).length = _
        rw [List.length_take]; omega
      · have hm : ((c :: r).take (partL (c :: r)), i) ∈ (((c :: r).take (partL (c :: r)), i) :: ts) := by simp
        exact TokR.one ((TokR.word hs hp hr).isTok _ hm) i
    | succ T =>
      have hT' : T < ts.length := by simpa using hT
      obtain ⟨q, h1, h2, h3⟩ := ih T hT'
      have hpt := part_take_ge (l := c :: r) (q := partL (c :: r) + q) hp (by omega)
      obtain ⟨m, hm⟩ : ∃ m, partL (c :: r) + q = m + 1 := ⟨partL (c :: r) + q - 1, by omega⟩
      have e1 : (c :: r).take (m + 1) = c :: r.take m := rfl
      have e2 : ((c :: r).take (partL (c :: r) + q)).drop (partL (c :: r)) = ((c :: r).drop (partL (c :: r))).take q := by
        rw [List.drop_take, Nat.add_sub_cancel_left]
      have e3 : ((c :: r).take (partL (c :: r) + q)).take (partL (c :: r)) = (c :: r).take (partL (c :: r)) := by
        rw [List.take_take, Nat.min_eq_left (by omega)]
      rw [List.length_drop] at h1
      refine ⟨partL (c :: r) + q, by omega, ?_, ?_⟩
      · show (ts[T]).2 + (ts[T]).1.length = _
        omega
      · rw [hm, e1] at hpt e2 e3 ⊢
        have h4 := TokR.word (c := c) (r := r.take m) (i := i) (ts := ts.take (T + 1)) hs (by rw [hpt]; exact hp) (by rw [hpt, e2]; exact h3)
        rw [hpt, e3] at h4
        exact h4
theorem TokR.places {l : List UInt8} {i : Nat} {ts : List (List UInt8 × Nat)} (h : TokR l i ts) : (∀ p ∈ ts, i ≤ p.2) ∧ ts.Pairwise (fun a b => a.2 < b.2) := by
  induction h with
  | nil i => exact ⟨fun p hp => by simp at hp, List.Pairwise.nil⟩
  | space hs _ ih => exact ⟨fun p hp => Nat.le_of_succ_le (ih.1 p hp), ih.2⟩
  | @word c r i ts hs hp hr ih =>
    have hp1 : 0 < partL (c :: r) := Nat.pos_of_ne_zero hp
    refine ⟨fun p hm => ?_, List.Pairwise.cons (fun p hm => ?_) ih.2⟩
    · rcases List.mem_cons.1 hm with e | e
      · rw [e]; exact Nat.le_refl _
      · have := ih.1 p e; omega
    · have := ih.1 p hm
      show i < p.2
      omega
end Go.Proofs.Ws
namespace Go.Proofs.YthhkeobjjeldhaaDoor
open Go.RowKit Go.Proofs.Ws Go.Maps
theorem run_same {E : PEnv} {n m : Nat} {rule : Rule} {s : PSt} {r r' : PRes} (h : runP E n rule s = some r) (h' : runP E m rule s = some r') : r = r' := by
  have h1 := run_fuel E (Nat.le_max_left n m) rule s r h
  have h2 := run_fuel E (Nat.le_max_right n m) rule s r' h'
  rw [h1] at h2
  injection h2
/-- the text up to the token, and others behind it -/
def stopT (t more : ByteArray) (q : Nat) : ByteArray := t.extract 0 q ++ ⟨#[32]⟩ ++ more
theorem stop_tok {t more : ByteArray} (ht : (tokV t).err = 0) (hm : (tokV more).err = 0) (hst : t.size ≤ 300) (hsm : more.size ≤ 300) (T : Nat) (hT : T < (tokV t).words.length) :
    (tokV t).ats.getD T 0 + ((tokV t).words.getD T ByteArray.empty).size ≤ t.size ∧ (∀ j, j < T → (tokV t).ats.getD j 0 < (tokV t).ats.getD T 0) ∧
    (tokV (stopT t more ((tokV t).ats.getD T 0 + ((tokV t).words.getD T ByteArray.empty).size))).err = 0 ∧
    (∃ v, (tokV (stopT t more ((tokV t).ats.getD T 0 + ((tokV t).words.getD T ByteArray.empty).size))).words = (tokV t).words.take (T + 1) ++ v) ∧
    (tokV (stopT t more ((tokV t).ats.getD T 0 + ((tokV t).words.getD T ByteArray.empty).size))).ats.getD T 0 = (tokV t).ats.getD T 0 := by
  obtain ⟨_, ts, h1, h2, h3⟩ := tokV_R ht
  obtain ⟨_, us, k1, k2, k3⟩ := tokV_R hm
  have hT' : T < ts.length := by rw [h2] at hT; simpa [wordsT] using hT
  obtain ⟨q, c1, c2, c3⟩ := h1.cut T hT'
  have ea : (tokV t).ats.getD T 0 = (ts[T]).2 := by
    rw [h3, List.getD_eq_getElem?_getD]
    simp [atsT, hT']
  have ew : ((tokV t).words.getD T ByteArray.empty).size = (ts[T]).1.length := by
    rw [h2, List.getD_eq_getElem?_getD]
    simp [wordsT, hT', ByteArray.size]
  have eq : (tokV t).ats.getD T 0 + ((tokV t).words.getD T ByteArray.empty).size = q := by rw [ea, ew]; omega
  have hl : t.data.toList.length = t.size := rfl
  rw [eq]
  have hlist : (stopT t more q).data.toList = t.data.toList.take q ++ 32 :: more.data.toList := by
    unfold stopT
    rw [bapp, bapp, ext_take]
    simp
  have hR : TokR (stopT t more q).data.toList 0 (ts.take (T + 1) ++ us.map (fun p => (p.1, (0 + (t.data.toList.take q).length + 1) + p.2))) := by
    rw [hlist]
    refine TokR.app c3 (brk_space (by decide)) (TokR.space (by decide) ?_)
    have := k1.shift (0 + (t.data.toList.take q).length + 1)
    exact this
  have hsz : (stopT t more q).size ≤ 4000 := by
    have e1 : (⟨#[32]⟩ : ByteArray).size = 1 := rfl
    unfold stopT
    rw [ByteArray.size_append, ByteArray.size_append, ByteArray.size_extract]
    omega
  have hV := tokV_of hR hsz
  refine ⟨by omega, fun j hj => ?_, by rw [hV], ⟨wordsT (us.map (fun p => (p.1, (0 + (t.data.toList.take q).length + 1) + p.2))), ?_⟩, ?_⟩
  · rw [ea, h3, List.getD_eq_getElem?_getD]
    have hj' : j < ts.length := by omega
    have := List.pairwise_iff_getElem.1 h1.places.2 j T hj' hT' hj
    simpa [atsT, hj'] using this
  · rw [hV, h2]
    show wordsT (ts.take (T + 1) ++ _) = (wordsT ts).take (T + 1) ++ _
    simp [wordsT, List.map_take]
  · rw [hV, ea]
    show (atsT (ts.take (T + 1) ++ _)).getD T 0 = _
    rw [List.getD_eq_getElem?_getD]
    have : T < (ts.take (T + 1)).length := by rw [List.length_take]; omega
    simp only [atsT, List.map_append]
    rw [List.getElem?_append_left (by simpa using this)]
    simp [hT']
/-- what the law ParserStops says -/
theorem stop_parse {A F X : List ByteArray} {t more : ByteArray} (ht : (tokV t).err = 0) (hm : (tokV more).err = 0) (hst : t.size ≤ 300) (hsm : more.size ≤ 300) (hs : sigErr A F X = 0) (he : (parseV A F X t).err = 4 ∨ (parseV A F X t).err = 5) :
    (∃ T, T < (tokV t).words.length ∧ (tokV t).ats.getD T 0 = (parseV A F X t).pos ∧ (parseV A F X t).pos + ((tokV t).words.getD T ByteArray.empty).size ≤ t.size ∧ (∀ j, j < T → (tokV t).ats.getD j 0 ≠ (parseV A F X t).pos) ∧
      (parseV A F X (stopT t more ((parseV A F X t).pos + ((tokV t).words.getD T ByteArray.empty).size))).err = (parseV A F X t).err ∧ (parseV A F X (stopT t more ((parseV A F X t).pos + ((tokV t).words.getD T ByteArray.empty).size))).pos = (parseV A F X t).pos) ∨
    ((parseV A F X t).pos = t.size ∧ (parseV A F X t).err = 4 ∧ ∀ j, j < (tokV t).words.length → (tokV t).ats.getD j 0 ≠ (parseV A F X t).pos) := by
  obtain ⟨b1, b2, _⟩ := tokV_bound t
  obtain ⟨r, hr, hr1, hr2⟩ := run_end ⟨A, F, X, (tokV t).words⟩ b2
  have hV := parseV_fin hs ht hr
  -- the token of the error
  have main : ∀ T, T < (tokV t).words.length → (tokV t).ats.getD T 0 = (parseV A F X t).pos → ((r = .err T (parseV A F X t).err) ∨ (∃ v s, r = .ok v s ∧ s.next = T ∧ (parseV A F X t).err = 4)) →
      (∃ T, T < (tokV t).words.length ∧ (tokV t).ats.getD T 0 = (parseV A F X t).pos ∧ (parseV A F X t).pos + ((tokV t).words.getD T ByteArray.empty).size ≤ t.size ∧ (∀ j, j < T → (tokV t).ats.getD j 0 ≠ (parseV A F X t).pos) ∧
      (parseV A F X (stopT t more ((parseV A F X t).pos + ((tokV t).words.getD T ByteArray.empty).size))).err = (parseV A F X t).err ∧ (parseV A F X (stopT t more ((parseV A F X t).pos + ((tokV t).words.getD T ByteArray.empty).size))).pos = (parseV A F X t).pos) := by
    intro T hT hp hcase
    obtain ⟨s1, s2, s3, ⟨v, s4⟩, s5⟩ := stop_tok ht hm hst hsm T hT
    rw [hp] at s1 s2 s3 s4 s5
    refine ⟨T, hT, hp, s1, fun j hj => Nat.ne_of_lt (s2 j hj), ?_⟩
    generalize stopT t more ((parseV A F X t).pos + ((tokV t).words.getD T ByteArray.empty).size) = t2 at *
    obtain ⟨d1, d2, _⟩ := tokV_bound t2
    have hlt2 : T < (tokV t2).words.length := by rw [s4, List.length_append, List.length_take]; omega
    have hagr : Agr ⟨A, F, X, (tokV t).words⟩ ⟨A, F, X, (tokV t2).words⟩ T := ⟨rfl, rfl, rfl, fun p hp => by
      show (tokV t2).words.getD p ByteArray.empty = (tokV t).words.getD p ByteArray.empty
      rw [s4, List.getD_eq_getElem?_getD, List.getElem?_append_left (by rw [List.length_take]; omega), List.getElem?_take, if_pos (by omega), ← List.getD_eq_getElem?_getD], hlt2⟩
    obtain ⟨_, _, hloc⟩ := run_loc hagr (10 * (tokV t).words.length + 7) .formula ⟨0, []⟩
    obtain ⟨g1, g2⟩ := hloc (Nat.zero_le _)
    obtain ⟨r2, hr', _, _⟩ := run_end ⟨A, F, X, (tokV t2).words⟩ d2
    have hV2 := parseV_fin hs s3 hr'
    have hep : endP (tokV t2) t2.size T = (parseV A F X t).pos := by
      unfold endP
      rw [if_pos (by omega)]
      exact s5
    rcases hcase with h | ⟨v0, s0, h, hn, h4⟩
    · rw [h] at hr
      have := run_same (g2 _ hr) hr'
      rw [← this] at hV2
      rw [hV2]
      exact ⟨rfl, hep⟩
    · rw [h] at hr
      have := run_same (g1 v0 s0 hr (by omega)) hr'
      rw [← this] at hV2
      rw [hV2, h4]
      unfold finV
      dsimp only
      rw [if_pos (by omega), hn]
      exact ⟨rfl, hep⟩
  cases r with
  | err T e =>
    have hpos : (parseV A F X t).pos = endP (tokV t) t.size T := by rw [hV]; rfl
    have herr : (parseV A F X t).err = e := by rw [hV]; rfl
    by_cases hT : T < (tokV t).words.length
    · refine .inl (main T hT ?_ (.inl (by rw [herr])))
      rw [hpos]
      unfold endP
      rw [if_pos (by omega)]
    · refine .inr ?_
      have hp2 : (parseV A F X t).pos = t.size := by
        rw [hpos]
        unfold endP
        rw [if_neg (by omega)]
      refine ⟨hp2, ?_, fun j hj => ?_⟩
      · rcases he with h | h
        · exact h
        · rw [herr] at h
          rw [h] at hr
          exact absurd (run_n5 _ _ _ _ _ hr) hT
      · rw [hp2]
        refine Nat.ne_of_lt ((tokV_pos t).2 _ ?_)
        rw [List.getD_eq_getElem?_getD, List.getElem?_eq_getElem (by omega)]
        exact List.getElem_mem _
  | ok v s =>
    unfold finV at hV
    dsimp only at hV
    by_cases h3 : s.next < (tokV t).words.length
    · rw [if_pos h3] at hV
      have hpos : (parseV A F X t).pos = endP (tokV t) t.size s.next := by rw [hV]
      have herr : (parseV A F X t).err = 4 := by rw [hV]
      refine .inl (main s.next h3 ?_ (.inr ⟨v, s, rfl, rfl, herr⟩))
      rw [hpos]
      unfold endP
      rw [if_pos (by omega)]
    · rw [if_neg h3] at hV
      exfalso
      by_cases h4 : 200 < s.nodes.length
      · rw [if_pos h4] at hV
        rw [hV] at he
        rcases he with h | h
        · exact absurd h (show ¬ ((8 : Int) = 4) by decide)
        · exact absurd h (show ¬ ((8 : Int) = 5) by decide)
      · rw [if_neg h4] at hV
        rw [hV] at he
        rcases he with h | h
        · exact absurd h (show ¬ ((0 : Int) = 4) by decide)
        · exact absurd h (show ¬ ((0 : Int) = 5) by decide)
end Go.Proofs.YthhkeobjjeldhaaDoor
