/- Layer 6: texts joined: Te Tf Tk Ts. -/
import Derived.Test.YtenbhalnpiahaaaGreatDoorJa
import Derived.Test.YtenbhalnpiahaaaGreatDoorJm
/- Layer 6 as plain mathematics: more fuel changes no result. -/
namespace Go.Proofs.Ws
open Go
def LeO (o o' : Option PRes) : Prop := ∀ r, o = some r → o' = some r
theorem LeO.refl (o : Option PRes) : LeO o o := fun _ h => h
theorem LeO.bind {a a' : Option PRes} {k k' : Nat → PSt → Option PRes} (h : LeO a a') (hk : ∀ v s, LeO (k v s) (k' v s)) : LeO (obind a k) (obind a' k') := by
  intro r hr
  cases ha : a with
  | none => rw [ha] at hr; cases hr
  | some x =>
    rw [ha] at hr
    rw [h x ha]
    cases x with
    | ok v s => exact hk v s r hr
    | err t e => exact hr
theorem LeO.expect {E : PEnv} {w : ByteArray} {s : PSt} {k k' : PSt → Option PRes} (hk : ∀ s, LeO (k s) (k' s)) : LeO (expectP E w s k) (expectP E w s k') := by
  unfold expectP
  split
  · exact hk _
  · exact LeO.refl _
end Go.Proofs.Ws
/- Layer 6 as plain mathematics: what is read within other tokens. -/
namespace Go.Proofs.Ws
open Go
/-- the state k tokens further on -/
def sh (k : Nat) (s : PSt) : PSt := { s with next := k + s.next }
/-- tokens that may go on behind a formula or a list of agents -/
def goOn : List ByteArray := [⟨#[60, 45, 62]⟩, ⟨#[45, 62]⟩, ⟨#[117, 110, 116, 105, 108]⟩, ⟨#[115, 105, 110, 99, 101]⟩, ⟨#[124]⟩, ⟨#[38]⟩, ⟨#[44]⟩]
/-- the tokens of E stand in E', k tokens further on, and behind them none that goes on -/
structure Emb (E E' : PEnv) (k : Nat) : Prop where
  a : E'.A = E.A
  f : E'.F = E.F
  x : E'.X = E.X
  ws : ∀ p, p < E.ws.length → E'.ws.getD (k + p) ByteArray.empty = E.ws.getD p ByteArray.empty
  le : E.ws.length ≤ E'.ws.length
  stop : ∀ w, w ∈ goOn → E'.ws.getD (k + E.ws.length) ByteArray.empty ≠ w
def Ext (k L : Nat) (o o' : Option PRes) : Prop := ∀ v s', o = some (.ok v s') → s'.next ≤ L ∧ o' = some (.ok v (sh k s'))
theorem Ext.bind {k L : Nat} {a a' : Option PRes} {f f' : Nat → PSt → Option PRes} (h : Ext k L a a') (hk : ∀ v s, s.next ≤ L → Ext k L (f v s) (f' v (sh k s))) : Ext k L (obind a f) (obind a' f') := by
  intro v s' hr
  cases ha : a with
  | none => rw [ha] at hr; cases hr
  | some x =>
    cases x with
    | err t e => rw [ha] at hr; injection hr with hr; cases hr
    | ok v1 s1 =>
      obtain ⟨h1, h2⟩ := h v1 s1 ha
      rw [ha] at hr
      rw [h2]
      exact hk v1 s1 h1 v s' hr
theorem Ext.err {k L t : Nat} {e : Int} {o' : Option PRes} : Ext k L (some (.err t e)) o' := fun v s' h => by injection h with h; cases h
theorem Ext.ok {k L v : Nat} {s : PSt} (h : s.next ≤ L) : Ext k L (some (.ok v s)) (some (.ok v (sh k s))) := fun v' s' e => by
  injection e with e
  injection e with e1 e2
  rw [← e1, ← e2]
  exact ⟨h, rfl⟩
theorem Ext.add {k L : Nat} {s : PSt} {n : Nd} (h : s.next ≤ L) : Ext k L (some (s.add n)) (some ((sh k s).add n)) := Ext.ok (s := { s with nodes := (putNd s.nodes n).2 }) h
theorem tk_end {E : PEnv} {s : PSt} (h : E.ws.length ≤ s.next) : tkP E s = ByteArray.empty := by
  unfold tkP
  rw [List.getD_eq_getElem?_getD, List.getElem?_eq_none h]
  rfl
theorem Emb.tk {E E' : PEnv} {k : Nat} (h : Emb E E' k) {s : PSt} (hl : s.next < E.ws.length) : tkP E' (sh k s) = tkP E s := h.ws s.next hl
theorem Ext.expect {E E' : PEnv} {k : Nat} (hE : Emb E E' k) {w : ByteArray} {s : PSt} {f f' : PSt → Option PRes} (hs : s.next ≤ E.ws.length) (hw : w ≠ ByteArray.empty) (hk : ∀ s : PSt, s.next ≤ E.ws.length → Ext k E.ws.length (f s) (f' (sh k s))) : Ext k E.ws.length (expectP E w s f) (expectP E' w (sh k s) f') := by
  unfold expectP
  by_cases hl : s.next < E.ws.length
  · rw [hE.tk hl]
    split
    · exact hk s.adv hl
    · exact Ext.err
  · rw [tk_end (by omega), if_neg (fun e => hw e.symm)]
    exact Ext.err
theorem Ext.name {E E' : PEnv} {k : Nat} (hE : Emb E E' k) {what : Nat} {s : PSt} (hs : s.next ≤ E.ws.length) : Ext k E.ws.length (some (nameP E what s)) (some (nameP E' what (sh k s))) := by
  unfold nameP
  by_cases hl : s.next < E.ws.length
  · rw [hE.tk hl, hE.a, hE.f, hE.x]
    generalize (if what = 0 then E.F else if what = 1 then E.A else E.X) = L
    split
    · exact Ext.err
    · split
      · exact Ext.err
      · exact Ext.ok (s := s.adv) hl
  · rw [tk_end (by omega), if_pos (by decide)]
    exact Ext.err
theorem Ext.number {E E' : PEnv} {k : Nat} (hE : Emb E E' k) {s : PSt} (hs : s.next ≤ E.ws.length) : Ext k E.ws.length (some (numberP E s)) (some (numberP E' (sh k s))) := by
  unfold numberP
  by_cases hl : s.next < E.ws.length
  · rw [hE.tk hl]
    split
    · exact Ext.err
    · split
      · exact Ext.err
      · exact Ext.ok (s := s.adv) hl
  · rw [tk_end (by omega), if_pos (by decide)]
    exact Ext.err
theorem Emb.miss {E E' : PEnv} {k : Nat} (h : Emb E E' k) {s : PSt} {w : ByteArray} (hs : s.next ≤ E.ws.length) (hw : w ∈ goOn) (hne : tkP E s ≠ w) : tkP E' (sh k s) ≠ w := by
  by_cases hl : s.next < E.ws.length
  · rw [h.tk hl]; exact hne
  · have e : s.next = E.ws.length := by omega
    show E'.ws.getD (k + s.next) ByteArray.empty ≠ w
    rw [e]
    exact h.stop w hw
theorem Ext.agents {E E' : PEnv} {k : Nat} (hE : Emb E E' k) : ∀ (n m g : Nat) (s : PSt), n ≤ m → s.next ≤ E.ws.length → Ext k E.ws.length (agentsL E n g s) (agentsL E' m g (sh k s)) := by
  intro n
  induction n with
  | zero => intro m g s _ _ v s' h; cases h
  | succ n ih =>
    intro m g s hm hs
    obtain ⟨m, rfl⟩ : ∃ m', m = m' + 1 := ⟨m - 1, by omega⟩
    unfold agentsL
    by_cases hc : tkP E s = ⟨#[44]⟩
    · have hl : s.next < E.ws.length := Nat.lt_of_not_le (fun h => by rw [tk_end h] at hc; exact absurd hc (by decide))
      rw [hE.tk hl, if_pos hc, if_pos hc]
      refine Ext.bind (Ext.name (s := s.adv) hE hl) (fun b s1 h1 => ?_)
      split
      · exact Ext.err
      · exact ih m _ s1 (by omega) h1
    · rw [if_neg hc, if_neg (hE.miss hs (by simp [goOn]) hc)]
      exact Ext.ok hs
end Go.Proofs.Ws
/- Layer 6 as plain mathematics: the parser on trees within other tokens; its trees. -/
namespace Go.Proofs.Ws
open Go
def ExtT (k L : Nat) (o o' : Option TRes) : Prop := ∀ t p, o = some (.ok t p) → p ≤ L ∧ o' = some (.ok t (k + p))
theorem ExtT.bind {k L : Nat} {a a' : Option TRes} {f f' : Tr → Nat → Option TRes} (h : ExtT k L a a') (hk : ∀ t p, p ≤ L → ExtT k L (f t p) (f' t (k + p))) : ExtT k L (tbind a f) (tbind a' f') := by
  intro t p hr
  match a, h, hr with
  | none, _, hr => cases hr
  | some (.err _ _), _, hr => injection hr with hr; cases hr
  | some (.ok t1 p1), h, hr =>
    obtain ⟨h1, h2⟩ := h t1 p1 rfl
    rw [h2]
    exact hk t1 p1 h1 t p hr
theorem ExtT.nbind {k L : Nat} {a a' : Option PRes} {f f' : Nat → Nat → Option TRes} (h : Ext k L a a') (hk : ∀ v p, p ≤ L → ExtT k L (f v p) (f' v (k + p))) : ExtT k L (nbind a f) (nbind a' f') := by
  intro t p hr
  match a, h, hr with
  | none, _, hr => cases hr
  | some (.err _ _), _, hr => injection hr with hr; cases hr
  | some (.ok v1 s1), h, hr =>
    obtain ⟨h1, h2⟩ := h v1 s1 rfl
    rw [h2]
    exact hk v1 s1.next h1 t p hr
theorem ExtT.err {k L t : Nat} {e : Int} {o' : Option TRes} : ExtT k L (some (.err t e)) o' := fun t p h => by injection h with h; cases h
theorem ExtT.ok {k L p : Nat} {t : Tr} (h : p ≤ L) : ExtT k L (some (.ok t p)) (some (.ok t (k + p))) := fun t' p' e => by
  injection e with e
  injection e with e1 e2
  rw [← e1, ← e2]
  exact ⟨h, rfl⟩
theorem tkT_end {E : PEnv} {p : Nat} (h : E.ws.length ≤ p) : tkT E p = ByteArray.empty := tk_end (s := ⟨p, []⟩) h
theorem Emb.tkT {E E' : PEnv} {k : Nat} (h : Emb E E' k) {p : Nat} (hl : p < E.ws.length) : tkT E' (k + p) = tkT E p := h.ws p hl
theorem tkT_lt {E : PEnv} {p : Nat} {w : ByteArray} (hc : tkT E p = w) (hw : w ≠ ByteArray.empty) : p < E.ws.length := Nat.lt_of_not_le (fun h => hw (by rw [← hc, tkT_end h]))
/-- a test of a token that may go on -/
theorem ExtT.go {E E' : PEnv} {k : Nat} (hE : Emb E E' k) {w : ByteArray} {p : Nat} {a a' b b' : Option TRes} (hp : p ≤ E.ws.length) (hg : w ∈ goOn) (hw : w ≠ ByteArray.empty) (h1 : p + 1 ≤ E.ws.length → ExtT k E.ws.length a a') (h2 : ExtT k E.ws.length b b') :
    ExtT k E.ws.length (if Go.Proofs.Ws.tkT E p = w then a else b) (if Go.Proofs.Ws.tkT E' (k + p) = w then a' else b') := by
  by_cases c : Go.Proofs.Ws.tkT E p = w
  · have hl := tkT_lt c hw
    rw [hE.tkT hl, if_pos c, if_pos c]
    exact h1 hl
  · have c2 : ¬ Go.Proofs.Ws.tkT E' (k + p) = w := hE.miss (s := ⟨p, []⟩) hp hg c
    rw [if_neg c, if_neg c2]
    exact h2
theorem ExtT.at_ {E E' : PEnv} {k : Nat} (hE : Emb E E' k) {w : ByteArray} {p : Nat} {a a' b b' : Option TRes} (hp : p < E.ws.length) (h1 : ExtT k E.ws.length a a') (h2 : ExtT k E.ws.length b b') :
    ExtT k E.ws.length (if Go.Proofs.Ws.tkT E p = w then a else b) (if Go.Proofs.Ws.tkT E' (k + p) = w then a' else b') := by
  rw [hE.tkT hp]
  split
  · exact h1
  · exact h2
theorem ExtT.expect {E E' : PEnv} {k : Nat} (hE : Emb E E' k) {w : ByteArray} {p : Nat} {f f' : Nat → Option TRes} (hp : p ≤ E.ws.length) (hw : w ≠ ByteArray.empty) (hk : ∀ p, p ≤ E.ws.length → ExtT k E.ws.length (f p) (f' (k + p))) : ExtT k E.ws.length (expectT E w p f) (expectT E' w (k + p) f') := by
  unfold expectT
  by_cases hl : p < E.ws.length
  · exact ExtT.at_ hE hl (hk (p + 1) hl) ExtT.err
  · rw [tkT_end (by omega), if_neg (fun e => hw e.symm)]
    exact ExtT.err
theorem runT_ext {E E' : PEnv} {k : Nat} (hE : Emb E E' k) : ∀ (n : Nat) (rule : TRule) (p : Nat), p ≤ E.ws.length → ExtT k E.ws.length (runT E n rule p) (runT E' n rule (k + p)) := by
  intro n
  induction n with
  | zero => intro rule p _ t p' h; cases h
  | succ n ih =>
    intro rule p hp
    cases rule with
    | formula => exact ExtT.bind (ih _ _ hp) (fun x p h => ih _ _ h)
    | or => exact ExtT.bind (ih _ _ hp) (fun x p h => ih _ _ h)
    | and => exact ExtT.bind (ih _ _ hp) (fun x p h => ih _ _ h)
    | iffL x => exact ExtT.go hE hp (by simp [goOn]) (by decide) (fun h => ExtT.bind (ih _ _ h) (fun y p h => ih _ _ h)) (ExtT.ok hp)
    | orL x => exact ExtT.go hE hp (by simp [goOn]) (by decide) (fun h => ExtT.bind (ih _ _ h) (fun y p h => ih _ _ h)) (ExtT.ok hp)
    | andL x => exact ExtT.go hE hp (by simp [goOn]) (by decide) (fun h => ExtT.bind (ih _ _ h) (fun y p h => ih _ _ h)) (ExtT.ok hp)
    | implies => exact ExtT.bind (ih _ _ hp) (fun x p h => ExtT.go hE h (by simp [goOn]) (by decide) (fun h => ExtT.bind (ih _ _ h) (fun y p h => ExtT.ok h)) (ExtT.ok h))
    | time => exact ExtT.bind (ih _ _ hp) (fun x p h => ExtT.go hE h (by simp [goOn]) (by decide) (fun h => ExtT.bind (ih _ _ h) (fun y p h => ExtT.ok h)) (ExtT.go hE h (by simp [goOn]) (by decide) (fun h => ExtT.bind (ih _ _ h) (fun y p h => ExtT.ok h)) (ExtT.ok h)))
    | pre =>
      have un : ∀ {nd : Nd} {p : Nat}, p ≤ E.ws.length → ExtT k E.ws.length (tbind (runT E n .pre p) fun x p => some (.ok (.un nd x) p)) (tbind (runT E' n .pre (k + p)) fun x p => some (.ok (.un nd x) p)) := fun h => ExtT.bind (ih _ _ h) (fun x p h => ExtT.ok h)
      have bar : ∀ {p : Nat} {f f' : Tr → Nat → Option TRes}, p ≤ E.ws.length → (∀ c p, p ≤ E.ws.length → ExtT k E.ws.length (f c p) (f' c (k + p))) → ExtT k E.ws.length (if tkT E p = ⟨#[124]⟩ then tbind (runT E n .formula (p + 1)) f else f (.leaf (nd1 1)) p) (if tkT E' (k + p) = ⟨#[124]⟩ then tbind (runT E' n .formula (k + p + 1)) f' else f' (.leaf (nd1 1)) (k + p)) :=
        fun h hk => ExtT.go hE h (by simp [goOn]) (by decide) (fun h => ExtT.bind (ih _ _ h) hk) (hk _ _ h)
      have two : ∀ {nd : Nd} {c : Tr} {p : Nat}, p ≤ E.ws.length → ExtT k E.ws.length (expectT E ⟨#[93]⟩ p fun p => tbind (runT E n .pre p) fun x p => some (.ok (.bin nd c x) p)) (expectT E' ⟨#[93]⟩ (k + p) fun p => tbind (runT E' n .pre p) fun x p => some (.ok (.bin nd c x) p)) :=
        fun h => ExtT.expect hE h (by decide) (fun p h => ExtT.bind (ih _ _ h) (fun x p h => ExtT.ok h))
      have nm : ∀ {what p : Nat} {f f' : Nat → Nat → Option TRes}, p ≤ E.ws.length → (∀ v p, p ≤ E.ws.length → ExtT k E.ws.length (f v p) (f' v (k + p))) → ExtT k E.ws.length (nbind (some (nameP E what ⟨p, []⟩)) f) (nbind (some (nameP E' what ⟨k + p, []⟩)) f') := fun h hk => ExtT.nbind (Ext.name (s := ⟨_, []⟩) hE h) hk
      have ags : ∀ {a p : Nat} {f f' : Nat → Nat → Option TRes}, p ≤ E.ws.length → (∀ v p, p ≤ E.ws.length → ExtT k E.ws.length (f v p) (f' v (k + p))) → ExtT k E.ws.length (nbind (agentsL E (E.ws.length + 1) (2 ^ a) ⟨p, []⟩) f) (nbind (agentsL E' (E'.ws.length + 1) (2 ^ a) ⟨k + p, []⟩) f') := fun h hk => ExtT.nbind (Ext.agents hE _ _ _ ⟨_, []⟩ (by have := hE.le; omega) h) hk
      have ag : ∀ {op : Int} {p : Nat}, p ≤ E.ws.length → ExtT k E.ws.length (expectT E ⟨#[91]⟩ p fun p => nbind (some (nameP E 1 ⟨p, []⟩)) fun a p => expectT E ⟨#[93]⟩ p fun p => tbind (runT E n .pre p) fun x p => some (.ok (.un ⟨op, a, 0, 0, 0, 0⟩ x) p)) (expectT E' ⟨#[91]⟩ (k + p) fun p => nbind (some (nameP E' 1 ⟨p, []⟩)) fun a p => expectT E' ⟨#[93]⟩ p fun p => tbind (runT E' n .pre p) fun x p => some (.ok (.un ⟨op, a, 0, 0, 0, 0⟩ x) p)) :=
        fun h => ExtT.expect hE h (by decide) (fun p h => nm h (fun a p h => ExtT.expect hE h (by decide) (fun p h => un h)))
      have gr : ∀ {op : Int} {p : Nat}, p ≤ E.ws.length → ExtT k E.ws.length (expectT E ⟨#[91]⟩ p fun p => nbind (some (nameP E 1 ⟨p, []⟩)) fun a p => nbind (agentsL E (E.ws.length + 1) (2 ^ a) ⟨p, []⟩) fun g p => expectT E ⟨#[93]⟩ p fun p => tbind (runT E n .pre p) fun x p => some (.ok (.un ⟨op, 0, 0, g, 0, 0⟩ x) p)) (expectT E' ⟨#[91]⟩ (k + p) fun p => nbind (some (nameP E' 1 ⟨p, []⟩)) fun a p => nbind (agentsL E' (E'.ws.length + 1) (2 ^ a) ⟨p, []⟩) fun g p => expectT E' ⟨#[93]⟩ p fun p => tbind (runT E' n .pre p) fun x p => some (.ok (.un ⟨op, 0, 0, g, 0, 0⟩ x) p)) :=
        fun h => ExtT.expect hE h (by decide) (fun p h => nm h (fun a p h => ags h (fun g p h => ExtT.expect hE h (by decide) (fun p h => un h))))
      rw [runT, runT]
      dsimp only
      by_cases hl : p < E.ws.length
      · have a0 : p + 1 ≤ E.ws.length := hl
        refine ExtT.at_ hE hl (un a0) ?_
        refine ExtT.at_ hE hl (un a0) ?_
        refine ExtT.at_ hE hl (un a0) ?_
        refine ExtT.at_ hE hl (ag a0) ?_
        refine ExtT.at_ hE hl (ag a0) ?_
        refine ExtT.at_ hE hl (ag a0) ?_
        refine ExtT.at_ hE hl (ExtT.expect (p := p + 1) hE a0 (by decide) (fun p h => nm h (fun a p h => bar h (fun c p h => two h)))) ?_
        refine ExtT.at_ hE hl (gr a0) ?_
        refine ExtT.at_ hE hl (gr a0) ?_
        refine ExtT.at_ hE hl (ExtT.expect (p := p + 1) hE a0 (by decide) (fun p h => nm h (fun a p h => ags h (fun g p h => bar h (fun c p h => two h))))) ?_
        refine ExtT.at_ hE hl ?_ ?_
        · by_cases hl1 : p + 1 < E.ws.length
          · exact ExtT.at_ (p := p + 1) hE hl1 (ExtT.bind (ih .formula (p + 1 + 1) hl1) (fun c p h => two h)) (nm (p := p + 1) a0 (fun a p h => ExtT.expect hE h (by decide) (fun p h => ExtT.nbind (Ext.number (s := ⟨_, []⟩) hE h) (fun e p h => ExtT.expect hE h (by decide) (fun p h => un h)))))
          · have e : nameP E 2 ⟨p + 1, []⟩ = .err (p + 1) 4 := by
              unfold nameP
              rw [tk_end (by show E.ws.length ≤ p + 1; omega), if_pos (by decide)]
            rw [tkT_end (by omega), if_neg (by decide), e]
            exact ExtT.err
        refine ExtT.at_ hE hl (ExtT.ok (p := p + 1) a0) ?_
        refine ExtT.at_ hE hl (ExtT.ok (p := p + 1) a0) ?_
        refine ExtT.at_ hE hl (ExtT.bind (ih .formula (p + 1) a0) (fun x p h => ExtT.expect hE h (by decide) (fun p h => ExtT.ok h))) ?_
        exact nm hp (fun a p h => ExtT.ok h)
      · have e : nameP E 0 ⟨p, []⟩ = .err p 4 := by
          unfold nameP
          rw [tk_end (by show E.ws.length ≤ p; omega), if_pos (by decide)]
        rw [tkT_end (by omega)]
        iterate 14 rw [if_neg (show ¬ (ByteArray.empty = _) by decide)]
        rw [e]
        exact ExtT.err
end Go.Proofs.Ws
/- Layer 6 as plain mathematics: texts that are put together out of others. -/
namespace Go.Proofs.Ws
open Go
theorem mark_facts : ∀ m ∈ markL, letN m = false ∧ digN m = false ∧ spaceN m = false ∧ wordN m = false ∧ m ≠ 60 ∧ m ≠ 45 := by decide
theorem part_mark {c : UInt8} (hc : c.toNat ∈ markL) (r : List UInt8) : partL (c :: r) = 1 := by
  obtain ⟨h1, h2, _, _, h5, h6⟩ := mark_facts _ hc
  show (if letN c.toNat = true then scanL wordN (c :: r) else if digN c.toNat = true then scanL digN (c :: r) else if [60, 45, 62] <+: (c :: r) then 3 else if [45, 62] <+: (c :: r) then 2 else if c.toNat ∈ markL then 1 else 0) = 1
  have hz : ∀ z : UInt8, z.toNat ≠ c.toNat → ∀ t, ¬ (z :: t) <+: (c :: r) := by
    intro z hz t ht
    obtain ⟨t', ht'⟩ := ht
    simp at ht'
    exact hz (by rw [ht'.1])
  rw [if_neg (by rw [h1]; decide), if_neg (by rw [h2]; decide), if_neg (hz 60 (fun e => h5 e.symm) _), if_neg (hz 45 (fun e => h6 e.symm) _), if_pos hc]
theorem TokR.mark {c : UInt8} {r : List UInt8} {i : Nat} {ts : List (List UInt8 × Nat)} (hc : c.toNat ∈ markL) (h : TokR r (i + 1) ts) : TokR (c :: r) i (([c], i) :: ts) := by
  have hp := part_mark hc r
  have h1 := TokR.word (c := c) (r := r) (i := i) (ts := ts) (mark_facts _ hc).2.2.1 (by rw [hp]; decide) (by rw [hp]; exact h)
  rw [hp] at h1
  exact h1
theorem TokR.shift {l : List UInt8} {i : Nat} {ts : List (List UInt8 × Nat)} (h : TokR l i ts) : ∀ d, TokR l (d + i) (ts.map (fun p => (p.1, d + p.2))) := by
  induction h with
  | nil i => intro d; exact TokR.nil _
  | space hs _ ih => intro d; exact TokR.space hs (ih d)
  | word hs hp _ ih =>
    intro d
    refine TokR.word hs hp ?_
    rw [Nat.add_assoc]
    exact ih d
theorem words_shift (ts : List (List UInt8 × Nat)) (d : Nat) : wordsT (ts.map (fun p => (p.1, d + p.2))) = wordsT ts := by simp [wordsT]
/-- the words of a text, wherever it stands -/
def TokW (l : List UInt8) (ws : List ByteArray) : Prop := ∀ i, ∃ ts, TokR l i ts ∧ wordsT ts = ws
theorem TokW.of {l : List UInt8} {ts : List (List UInt8 × Nat)} (h : TokR l 0 ts) : TokW l (wordsT ts) := fun i => ⟨_, h.shift i, words_shift ts i⟩
theorem TokW.nil : TokW [] [] := fun i => ⟨[], TokR.nil i, rfl⟩
theorem TokW.space {c : UInt8} {r : List UInt8} {ws : List ByteArray} (hs : spaceN c.toNat = true) (h : TokW r ws) : TokW (c :: r) ws := fun i => by
  obtain ⟨ts, h1, h2⟩ := h (i + 1)
  exact ⟨ts, TokR.space hs h1, h2⟩
theorem TokW.mark {c : UInt8} {r : List UInt8} {ws : List ByteArray} (hc : c.toNat ∈ markL) (h : TokW r ws) : TokW (c :: r) (⟨#[c]⟩ :: ws) := fun i => by
  obtain ⟨ts, h1, h2⟩ := h (i + 1)
  exact ⟨_, TokR.mark hc h1, by rw [← h2]; rfl⟩
theorem TokW.app {l b : List UInt8} {u v : List ByteArray} (h : TokW l u) (hb : Brk b) (h2 : TokW b v) : TokW (l ++ b) (u ++ v) := fun i => by
  obtain ⟨t1, g1, g2⟩ := h i
  obtain ⟨t2, k1, k2⟩ := h2 (i + l.length)
  exact ⟨_, TokR.app g1 hb k1, by rw [← g2, ← k2]; simp [wordsT]⟩
theorem TokW.word {w : List UInt8} {b : List UInt8} {v : List ByteArray} (h : IsTok w) (hb : Brk b) (h2 : TokW b v) : TokW (w ++ b) (⟨w.toArray⟩ :: v) := TokW.app (u := [⟨w.toArray⟩]) (fun i => ⟨_, TokR.one h i, rfl⟩) hb h2
theorem brk_mark {c : UInt8} {r : List UInt8} (h : c.toNat ∈ markL) : Brk (c :: r) := by
  intro d t e
  injection e with e1 _
  rw [← e1]
  exact (mark_facts _ h).2.2.2.1
theorem TokW.paren {l b : List UInt8} {u v : List ByteArray} (h : TokW l u) (h2 : TokW b v) : TokW (40 :: (l ++ 41 :: b)) (⟨#[40]⟩ :: (u ++ ⟨#[41]⟩ :: v)) :=
  TokW.mark (by decide) (TokW.app h (brk_mark (by decide)) (TokW.mark (by decide) h2))
/- what is read within other tokens -/
theorem Runs.ext {E E' : PEnv} {k : Nat} (hE : Emb E E' k) {t : Tr} {p : Nat} (h : Runs E .formula 0 t p) : p ≤ E.ws.length ∧ Runs E' .formula k t (k + p) := by
  obtain ⟨n, hn⟩ := h
  obtain ⟨h1, h2⟩ := runT_ext hE n .formula 0 (Nat.zero_le _) t p hn
  exact ⟨h1, ⟨n, h2⟩⟩
theorem getD_mid {u ws v : List ByteArray} (p : Nat) (hp : p < ws.length) : (u ++ (ws ++ v)).getD (u.length + p) ByteArray.empty = ws.getD p ByteArray.empty := by
  rw [List.getD_eq_getElem?_getD, List.getD_eq_getElem?_getD, List.getElem?_append_right (by omega), List.getElem?_append_left (by omega)]
  congr 2; omega
theorem getD_right {u v : List ByteArray} (p : Nat) : (u ++ v).getD (u.length + p) ByteArray.empty = v.getD p ByteArray.empty := by
  rw [List.getD_eq_getElem?_getD, List.getD_eq_getElem?_getD, List.getElem?_append_right (by omega)]
  congr 2; omega
theorem emb_mid (A F X u ws v : List ByteArray) (hv : ∀ w, w ∈ goOn → v.getD 0 ByteArray.empty ≠ w) : Emb ⟨A, F, X, ws⟩ ⟨A, F, X, u ++ (ws ++ v)⟩ u.length :=
  ⟨rfl, rfl, rfl, fun p hp => getD_mid p hp, by simp; omega, fun w hw => by
    show (u ++ (ws ++ v)).getD (u.length + ws.length) ByteArray.empty ≠ w
    have e : (u ++ (ws ++ v)).getD (u.length + ws.length) ByteArray.empty = v.getD 0 ByteArray.empty := by
      rw [getD_right, show ws.length = ws.length + 0 from rfl, getD_right]
    rw [e]
    exact hv w hw⟩
/-- a text in parentheses within other tokens -/
theorem Runs.inParen {A F X u ws v : List ByteArray} {t : Tr} (h : Runs ⟨A, F, X, ws⟩ .formula 0 t ws.length) :
    Runs ⟨A, F, X, u ++ ⟨#[40]⟩ :: (ws ++ ⟨#[41]⟩ :: v)⟩ .pre u.length t (u.length + ws.length + 2) := by
  have e : u ++ ⟨#[40]⟩ :: (ws ++ ⟨#[41]⟩ :: v) = (u ++ [⟨#[40]⟩]) ++ (ws ++ ⟨#[41]⟩ :: v) := by simp
  have hE := emb_mid A F X (u ++ [⟨#[40]⟩]) ws (⟨#[41]⟩ :: v) (by
    intro w hw e
    revert hw
    rw [← e]
    show ¬ (⟨#[41]⟩ : ByteArray) ∈ goOn
    simp [goOn])
  rw [← e] at hE
  obtain ⟨_, h2⟩ := Runs.ext hE h
  have hlen : (u ++ [(⟨#[40]⟩ : ByteArray)]).length = u.length + 1 := by simp
  rw [hlen] at h2
  have h3 : tkT ⟨A, F, X, u ++ ⟨#[40]⟩ :: (ws ++ ⟨#[41]⟩ :: v)⟩ u.length = ⟨#[40]⟩ := getD_right 0
  have h4 : tkT ⟨A, F, X, u ++ ⟨#[40]⟩ :: (ws ++ ⟨#[41]⟩ :: v)⟩ (u.length + 1 + ws.length) = ⟨#[41]⟩ := by
    show (u ++ ⟨#[40]⟩ :: (ws ++ ⟨#[41]⟩ :: v)).getD (u.length + 1 + ws.length) ByteArray.empty = _
    rw [e, ← hlen, getD_right]
    exact getD_right 0
  have := Runs.paren h3 h2 h4
  rw [show u.length + 1 + ws.length + 1 = u.length + ws.length + 2 from by omega] at this
  exact this
theorem Runs.u1 {E : PEnv} {p q : Nat} {x : Tr} (h : Runs E .pre p x q) (h1 : tkT E q ≠ ⟨#[38]⟩) : Runs E .and p x q := Runs.and h (Runs.loopEnd h1)
theorem Runs.u2 {E : PEnv} {p q : Nat} {x : Tr} (h : Runs E .and p x q) (h1 : tkT E q ≠ ⟨#[124]⟩) : Runs E .or p x q := Runs.or h (Runs.orEnd h1)
theorem Runs.u5 {E : PEnv} {p q : Nat} {x : Tr} (h : Runs E .implies p x q) (h1 : tkT E q ≠ ⟨#[60, 45, 62]⟩) : Runs E .formula p x q := Runs.formula h (Runs.iffEnd h1)
/-- nothing that goes on a formula -/
structure Stp (w : ByteArray) : Prop where
  a : w ≠ ⟨#[38]⟩
  o : w ≠ ⟨#[124]⟩
  u : w ≠ ⟨#[117, 110, 116, 105, 108]⟩
  s : w ≠ ⟨#[115, 105, 110, 99, 101]⟩
  i : w ≠ ⟨#[45, 62]⟩
  f : w ≠ ⟨#[60, 45, 62]⟩
theorem Stp.empty : Stp ByteArray.empty := by constructor <;> decide
theorem Runs.fromTime {E : PEnv} {p q : Nat} {x : Tr} (h : Runs E .time p x q) (hs : Stp (tkT E q)) : Runs E .formula p x q := Runs.u5 (Runs.implies h hs.i) hs.f
theorem Runs.fromOr {E : PEnv} {p q : Nat} {x : Tr} (h : Runs E .or p x q) (hs : Stp (tkT E q)) : Runs E .formula p x q := Runs.fromTime (Runs.time h hs.u hs.s) hs
theorem Runs.fromAnd {E : PEnv} {p q : Nat} {x : Tr} (h : Runs E .and p x q) (hs : Stp (tkT E q)) : Runs E .formula p x q := Runs.fromOr (Runs.u2 h hs.o) hs
theorem Runs.fromPre {E : PEnv} {p q : Nat} {x : Tr} (h : Runs E .pre p x q) (hs : Stp (tkT E q)) : Runs E .formula p x q := Runs.fromAnd (Runs.u1 h hs.a) hs
theorem tkT_at {A F X u v : List ByteArray} : tkT ⟨A, F, X, u ++ v⟩ u.length = v.getD 0 ByteArray.empty := getD_right 0
theorem tkT_over {A F X ws : List ByteArray} : tkT ⟨A, F, X, ws⟩ ws.length = ByteArray.empty := tkT_end (E := ⟨A, F, X, ws⟩) (Nat.le_refl _)
/-- the whole text in parentheses -/
theorem Runs.whole {A F X ws : List ByteArray} {t : Tr} (h : Runs ⟨A, F, X, ws⟩ .formula 0 t ws.length) :
    Runs ⟨A, F, X, ⟨#[40]⟩ :: (ws ++ [⟨#[41]⟩])⟩ .formula 0 t (⟨#[40]⟩ :: (ws ++ [(⟨#[41]⟩ : ByteArray)])).length := by
  have h1 := Runs.inParen (u := []) (v := []) h
  have e : ([] : List ByteArray).length + ws.length + 2 = (⟨#[40]⟩ :: (ws ++ [(⟨#[41]⟩ : ByteArray)])).length := by simp
  rw [e] at h1
  refine Runs.fromPre h1 ?_
  show Stp (tkT ⟨A, F, X, ⟨#[40]⟩ :: (ws ++ [⟨#[41]⟩])⟩ _)
  rw [tkT_over]
  exact Stp.empty
/-- the six operators with two operands: sign and code -/
def signs2 : List (ByteArray × Int) := [(⟨#[38]⟩, 5), (⟨#[124]⟩, 6), (⟨#[45, 62]⟩, 7), (⟨#[60, 45, 62]⟩, 8), (⟨#[117, 110, 116, 105, 108]⟩, 19), (⟨#[115, 105, 110, 99, 101]⟩, 21)]
def joinW (wa wb : List ByteArray) (sg : ByteArray) : List ByteArray := ⟨#[40]⟩ :: (wa ++ ⟨#[41]⟩ :: sg :: ⟨#[40]⟩ :: (wb ++ [⟨#[41]⟩]))
theorem Runs.join {A F X wa wb : List ByteArray} {ta tb : Tr} {sg : ByteArray} {op : Int} (hm : (sg, op) ∈ signs2) (ha : Runs ⟨A, F, X, wa⟩ .formula 0 ta wa.length) (hb : Runs ⟨A, F, X, wb⟩ .formula 0 tb wb.length) :
    Runs ⟨A, F, X, joinW wa wb sg⟩ .formula 0 (.bin (nd1 op) ta tb) (joinW wa wb sg).length := by
  have h1 := Runs.inParen (u := []) (v := sg :: ⟨#[40]⟩ :: (wb ++ [⟨#[41]⟩])) ha
  have h2 := Runs.inParen (u := ⟨#[40]⟩ :: (wa ++ [⟨#[41]⟩, sg])) (v := []) hb
  have e2 : (⟨#[40]⟩ :: (wa ++ [⟨#[41]⟩, sg])) ++ ⟨#[40]⟩ :: (wb ++ [⟨#[41]⟩]) = joinW wa wb sg := by simp [joinW]
  rw [e2] at h2
  have h1' : Runs ⟨A, F, X, joinW wa wb sg⟩ .pre 0 ta (wa.length + 2) := by
    have e : ([] : List ByteArray).length + wa.length + 2 = wa.length + 2 := by simp
    rw [e] at h1
    exact h1
  have hq : (⟨#[40]⟩ :: (wa ++ [(⟨#[41]⟩ : ByteArray), sg])).length = wa.length + 2 + 1 := by simp
  rw [hq] at h2
  have hz : wa.length + 2 + 1 + wb.length + 2 = (joinW wa wb sg).length := by simp [joinW] <;> omega
  rw [hz] at h2
  have hsg : tkT ⟨A, F, X, joinW wa wb sg⟩ (wa.length + 2) = sg := by
    have e3 : joinW wa wb sg = (⟨#[40]⟩ :: (wa ++ [⟨#[41]⟩])) ++ (sg :: ⟨#[40]⟩ :: (wb ++ [⟨#[41]⟩])) := by simp [joinW]
    have e4 : wa.length + 2 = (⟨#[40]⟩ :: (wa ++ [(⟨#[41]⟩ : ByteArray)])).length := by simp
    rw [e3, e4]
    exact tkT_at
  have hend : Stp (tkT ⟨A, F, X, joinW wa wb sg⟩ (joinW wa wb sg).length) := by rw [tkT_over]; exact Stp.empty
  generalize joinW wa wb sg = W at *
  simp only [signs2, List.mem_cons, Prod.mk.injEq, List.not_mem_nil, or_false] at hm
  rcases hm with ⟨rfl, rfl⟩ | ⟨rfl, rfl⟩ | ⟨rfl, rfl⟩ | ⟨rfl, rfl⟩ | ⟨rfl, rfl⟩ | ⟨rfl, rfl⟩
  · exact Runs.fromAnd (Runs.and h1' (Runs.andMore hsg h2 (Runs.loopEnd hend.a))) hend
  · exact Runs.fromOr (Runs.or (Runs.u1 h1' (by rw [hsg]; decide)) (Runs.orMore hsg (Runs.u1 h2 hend.a) (Runs.orEnd hend.o))) hend
  · have a1 := Runs.time (Runs.u2 (Runs.u1 h1' (by rw [hsg]; decide)) (by rw [hsg]; decide)) (by rw [hsg]; decide) (by rw [hsg]; decide)
    have a2 := Runs.implies (Runs.time (Runs.u2 (Runs.u1 h2 hend.a) hend.o) hend.u hend.s) hend.i
    exact Runs.u5 (Runs.arrow a1 hsg a2) hend.f
  · have a1 := Runs.implies (Runs.time (Runs.u2 (Runs.u1 h1' (by rw [hsg]; decide)) (by rw [hsg]; decide)) (by rw [hsg]; decide) (by rw [hsg]; decide)) (by rw [hsg]; decide)
    have a2 := Runs.implies (Runs.time (Runs.u2 (Runs.u1 h2 hend.a) hend.o) hend.u hend.s) hend.i
    exact Runs.formula a1 (Runs.iffMore hsg a2 (Runs.iffEnd hend.f))
  · have a1 := Runs.u2 (Runs.u1 h1' (by rw [hsg]; decide)) (by rw [hsg]; decide)
    have a2 := Runs.time (Runs.u2 (Runs.u1 h2 hend.a) hend.o) hend.u hend.s
    exact Runs.fromTime (Runs.until a1 hsg a2) hend
  · have a1 := Runs.u2 (Runs.u1 h1' (by rw [hsg]; decide)) (by rw [hsg]; decide)
    have a2 := Runs.time (Runs.u2 (Runs.u1 h2 hend.a) hend.o) hend.u hend.s
    exact Runs.fromTime (Runs.since a1 hsg a2) hend
end Go.Proofs.Ws
