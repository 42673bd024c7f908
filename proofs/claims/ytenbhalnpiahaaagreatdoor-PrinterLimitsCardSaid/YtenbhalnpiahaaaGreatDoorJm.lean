/- Layer 6: texts joined: Ti Tj Th Tl Tm Tr. -/
import Derived.Test.YtenbhalnpiahaaaGreatDoorJa
import Derived.Test.YtenbhalnpiahaaaGreatDoorJl
/- Layer 6 as plain mathematics: the parser over tokens on trees; the nodes before do not matter. -/
namespace Go.Proofs.Ws
open Go
inductive TRes where
  | ok (t : Tr) (p : Nat)
  | err (tok : Nat) (e : Int)
inductive TRule where
  | formula | iffL (x : Tr) | implies | time | or | orL (x : Tr) | and | andL (x : Tr) | pre
def tbind (r : Option TRes) (k : Tr → Nat → Option TRes) : Option TRes := match r with | some (.ok t p) => k t p | some (.err t e) => some (.err t e) | none => none
/-- a number that was read: behind it -/
def nbind (r : Option PRes) (k : Nat → Nat → Option TRes) : Option TRes := match r with | some (.ok a s) => k a s.next | some (.err t e) => some (.err t e) | none => none
def tkT (E : PEnv) (p : Nat) : ByteArray := E.ws.getD p ByteArray.empty
def expectT (E : PEnv) (w : ByteArray) (p : Nat) (k : Nat → Option TRes) : Option TRes := if tkT E p = w then k (p + 1) else some (.err p 4)
def nd1 (op : Int) : Nd := ⟨op, 0, 0, 0, 0, 0⟩
def runT (E : PEnv) : Nat → TRule → Nat → Option TRes
  | 0, _, _ => none
  | n + 1, .formula, p => tbind (runT E n .implies p) fun x p => runT E n (.iffL x) p
  | n + 1, .iffL x, p => if tkT E p = ⟨#[60, 45, 62]⟩ then tbind (runT E n .implies (p + 1)) fun y p => runT E n (.iffL (.bin (nd1 8) x y)) p else some (.ok x p)
  | n + 1, .implies, p => tbind (runT E n .time p) fun x p => if tkT E p = ⟨#[45, 62]⟩ then tbind (runT E n .implies (p + 1)) fun y p => some (.ok (.bin (nd1 7) x y) p) else some (.ok x p)
  | n + 1, .time, p => tbind (runT E n .or p) fun x p =>
    if tkT E p = ⟨#[117, 110, 116, 105, 108]⟩ then tbind (runT E n .time (p + 1)) fun y p => some (.ok (.bin (nd1 19) x y) p)
    else if tkT E p = ⟨#[115, 105, 110, 99, 101]⟩ then tbind (runT E n .time (p + 1)) fun y p => some (.ok (.bin (nd1 21) x y) p)
    else some (.ok x p)
  | n + 1, .or, p => tbind (runT E n .and p) fun x p => runT E n (.orL x) p
  | n + 1, .orL x, p => if tkT E p = ⟨#[124]⟩ then tbind (runT E n .and (p + 1)) fun y p => runT E n (.orL (.bin (nd1 6) x y)) p else some (.ok x p)
  | n + 1, .and, p => tbind (runT E n .pre p) fun x p => runT E n (.andL x) p
  | n + 1, .andL x, p => if tkT E p = ⟨#[38]⟩ then tbind (runT E n .pre (p + 1)) fun y p => runT E n (.andL (.bin (nd1 5) x y)) p else some (.ok x p)
  | n + 1, .pre, p =>
    let w := tkT E p
    let un := fun (nd : Nd) (p : Nat) => tbind (runT E n .pre p) fun x p => some (.ok (.un nd x) p)
    let ag := fun (op : Int) => expectT E ⟨#[91]⟩ (p + 1) fun p => nbind (some (nameP E 1 ⟨p, []⟩)) fun a p => expectT E ⟨#[93]⟩ p fun p => un ⟨op, a, 0, 0, 0, 0⟩ p
    let gr := fun (op : Int) => expectT E ⟨#[91]⟩ (p + 1) fun p => nbind (some (nameP E 1 ⟨p, []⟩)) fun a p => nbind (agentsL E (E.ws.length + 1) (2 ^ a) ⟨p, []⟩) fun g p => expectT E ⟨#[93]⟩ p fun p => un ⟨op, 0, 0, g, 0, 0⟩ p
    let bar := fun (p : Nat) (k : Tr → Nat → Option TRes) => if tkT E p = ⟨#[124]⟩ then tbind (runT E n .formula (p + 1)) k else k (.leaf (nd1 1)) p
    let two := fun (nd : Nd) (c : Tr) (p : Nat) => expectT E ⟨#[93]⟩ p fun p => tbind (runT E n .pre p) fun x p => some (.ok (.bin nd c x) p)
    if w = ⟨#[126]⟩ then un (nd1 4) (p + 1) else if w = ⟨#[110, 101, 120, 116]⟩ then un (nd1 18) (p + 1) else if w = ⟨#[112, 114, 101, 118]⟩ then un (nd1 20) (p + 1)
    else if w = ⟨#[75]⟩ then ag 9 else if w = ⟨#[77]⟩ then ag 10 else if w = ⟨#[83]⟩ then ag 15
    else if w = ⟨#[66]⟩ then expectT E ⟨#[91]⟩ (p + 1) fun p => nbind (some (nameP E 1 ⟨p, []⟩)) fun a p => bar p fun c p => two ⟨14, a, 0, 0, 0, 0⟩ c p
    else if w = ⟨#[69]⟩ then gr 11 else if w = ⟨#[68]⟩ then gr 12
    else if w = ⟨#[67]⟩ then expectT E ⟨#[91]⟩ (p + 1) fun p => nbind (some (nameP E 1 ⟨p, []⟩)) fun a p => nbind (agentsL E (E.ws.length + 1) (2 ^ a) ⟨p, []⟩) fun g p => bar p fun c p => two ⟨13, 0, 0, g, 0, 0⟩ c p
    else if w = ⟨#[91]⟩ then
      if tkT E (p + 1) = ⟨#[33]⟩ then tbind (runT E n .formula (p + 1 + 1)) fun c p => two (nd1 16) c p
      else nbind (some (nameP E 2 ⟨p + 1, []⟩)) fun a p => expectT E ⟨#[46]⟩ p fun p => nbind (some (numberP E ⟨p, []⟩)) fun e p => expectT E ⟨#[93]⟩ p fun p => un ⟨17, a, e, 0, 0, 0⟩ p
    else if w = ⟨#[116, 114, 117, 101]⟩ then some (.ok (.leaf (nd1 1)) (p + 1)) else if w = ⟨#[102, 97, 108, 115, 101]⟩ then some (.ok (.leaf (nd1 2)) (p + 1))
    else if w = ⟨#[40]⟩ then tbind (runT E n .formula (p + 1)) fun x p => expectT E ⟨#[41]⟩ p fun p => some (.ok x p)
    else nbind (some (nameP E 0 ⟨p, []⟩)) fun a p => some (.ok (.leaf ⟨3, a, 0, 0, 0, 0⟩) p)
/-- the tree's numbers behind a list of nodes -/
def img (o : List Nd) (r : Option TRes) : Option PRes := match r with | some (.ok t p) => some (.ok (finT t o).1 ⟨p, (finT t o).2⟩) | some (.err t e) => some (.err t e) | none => none
theorem img_bind {o1 o : List Nd} {a : Option TRes} {k : Tr → Nat → Option TRes} {K : Nat → PSt → Option PRes} (h : ∀ t p, K (finT t o1).1 ⟨p, (finT t o1).2⟩ = img o (k t p)) : obind (img o1 a) K = img o (tbind a k) := by
  match a with
  | none => rfl
  | some (.err t e) => rfl
  | some (.ok t p) => exact h t p
/-- numbers that are read do not depend on the nodes -/
def reN (l : List Nd) (r : Option PRes) : Option PRes := match r with | some (.ok a s) => some (.ok a ⟨s.next, l⟩) | some (.err t e) => some (.err t e) | none => none
theorem reN_bind {l o : List Nd} {a : Option PRes} {k : Nat → Nat → Option TRes} {K : Nat → PSt → Option PRes} (h : ∀ v p, K v ⟨p, l⟩ = img o (k v p)) : obind (reN l a) K = img o (nbind a k) := by
  match a with
  | none => rfl
  | some (.err t e) => rfl
  | some (.ok v s) => exact h v s.next
theorem name_re (E : PEnv) (what p : Nat) (l : List Nd) : some (nameP E what ⟨p, l⟩) = reN l (some (nameP E what ⟨p, []⟩)) := by
  unfold nameP
  have e : tkP E ⟨p, l⟩ = tkP E ⟨p, []⟩ := rfl
  rw [e]
  generalize (if what = 0 then E.F else if what = 1 then E.A else E.X) = L
  by_cases h1 : nameOk (tkP E ⟨p, []⟩) = false
  · rw [if_pos h1, if_pos h1]; rfl
  · rw [if_neg h1, if_neg h1]
    by_cases h2 : Lib.idxOfS L (tkP E ⟨p, []⟩) < 0
    · rw [if_pos h2, if_pos h2]; rfl
    · rw [if_neg h2, if_neg h2]; rfl
theorem number_re (E : PEnv) (p : Nat) (l : List Nd) : some (numberP E ⟨p, l⟩) = reN l (some (numberP E ⟨p, []⟩)) := by
  unfold numberP
  have e : tkP E ⟨p, l⟩ = tkP E ⟨p, []⟩ := rfl
  rw [e]
  by_cases h1 : (decide ((tkP E ⟨p, []⟩).size ≠ 0) && digN (headN (tkP E ⟨p, []⟩))) = false
  · rw [if_pos h1, if_pos h1]; rfl
  · rw [if_neg h1, if_neg h1]
    by_cases h2 : 1 < (tkP E ⟨p, []⟩).size ∨ 8 ≤ headN (tkP E ⟨p, []⟩) - 48
    · rw [if_pos h2, if_pos h2]; rfl
    · rw [if_neg h2, if_neg h2]; rfl
theorem name_adv {E : PEnv} {what b : Nat} {s s' : PSt} (h : nameP E what s = .ok b s') : s' = s.adv := by
  unfold nameP at h
  generalize (if what = 0 then E.F else if what = 1 then E.A else E.X) = L at *
  split at h
  · cases h
  · split at h
    · cases h
    · injection h with _ h2; exact h2.symm
theorem agents_re (E : PEnv) (l : List Nd) : ∀ (n g p : Nat), agentsL E n g ⟨p, l⟩ = reN l (agentsL E n g ⟨p, []⟩) := by
  intro n
  induction n with
  | zero => intro g p; rfl
  | succ n ih =>
    intro g p
    unfold agentsL
    have e : tkP E ⟨p, l⟩ = tkP E ⟨p, []⟩ := rfl
    rw [e]
    by_cases h1 : tkP E ⟨p, []⟩ = ⟨#[44]⟩
    · rw [if_pos h1, if_pos h1]
      show obind (some (nameP E 1 ⟨p + 1, l⟩)) _ = reN l (obind (some (nameP E 1 ⟨p + 1, []⟩)) _)
      rw [name_re E 1 (p + 1) l]
      cases hr : nameP E 1 ⟨p + 1, []⟩ with
      | err t e => rfl
      | ok b s =>
        have hs := name_adv hr
        subst hs
        show (if g.testBit b = true then some (PRes.err (p + 1) 7) else agentsL E n (g ||| 2 ^ b) ⟨p + 1 + 1, l⟩) = reN l (if g.testBit b = true then some (PRes.err (p + 1) 7) else agentsL E n (g ||| 2 ^ b) ⟨p + 1 + 1, []⟩)
        by_cases h2 : g.testBit b = true
        · rw [if_pos h2, if_pos h2]; rfl
        · rw [if_neg h2, if_neg h2, ih]
    · rw [if_neg h1, if_neg h1]; rfl
/-- the rule for node numbers, and the list of nodes that it begins with -/
def TRule.num (o : List Nd) : TRule → Rule
  | .formula => .formula
  | .iffL x => .iffL (finT x o).1
  | .implies => .implies
  | .time => .time
  | .or => .or
  | .orL x => .orL (finT x o).1
  | .and => .and
  | .andL x => .andL (finT x o).1
  | .pre => .pre
def TRule.nodes (o : List Nd) : TRule → List Nd
  | .iffL x => (finT x o).2
  | .orL x => (finT x o).2
  | .andL x => (finT x o).2
  | _ => o
theorem exp_img {E : PEnv} {w : ByteArray} {p : Nat} {l o : List Nd} {k : Nat → Option TRes} {K : PSt → Option PRes} (h : ∀ p, K ⟨p, l⟩ = img o (k p)) : expectP E w ⟨p, l⟩ K = img o (expectT E w p k) := by
  unfold expectP expectT
  have e : tkP E ⟨p, l⟩ = tkT E p := rfl
  rw [e]
  by_cases c : tkT E p = w
  · rw [if_pos c, if_pos c]; exact h (p + 1)
  · rw [if_neg c, if_neg c]; rfl
theorem ite_img {E : PEnv} {w : ByteArray} {p : Nat} {l o : List Nd} {a b : Option TRes} {A B : Option PRes} (h1 : A = img o a) (h2 : B = img o b) : (if tkP E ⟨p, l⟩ = w then A else B) = img o (if tkT E p = w then a else b) := by
  have e : tkP E ⟨p, l⟩ = tkT E p := rfl
  rw [e]
  by_cases c : tkT E p = w
  · rw [if_pos c, if_pos c]; exact h1
  · rw [if_neg c, if_neg c]; exact h2
theorem run_img (E : PEnv) : ∀ (n : Nat) (rule : TRule) (p : Nat) (o : List Nd), runP E n (rule.num o) ⟨p, rule.nodes o⟩ = img o (runT E n rule p) := by
  intro n
  induction n with
  | zero => intro rule p o; cases rule <;> rfl
  | succ n ih =>
    intro rule p o
    have loopI : ∀ {sg : ByteArray} {op : Int} {x : Tr} {r : TRule} {R : Rule} {kk : Nat → Rule} {k2 : Tr → TRule}, (∀ o, r.num o = R) → (∀ o, r.nodes o = o) → (∀ t o, (k2 t).num o = kk (finT t o).1) → (∀ t o, (k2 t).nodes o = (finT t o).2) →
        (if tkP E ⟨p, (finT x o).2⟩ = sg then obind (runP E n R ⟨p + 1, (finT x o).2⟩) fun y s => obind (some (s.add ⟨op, 0, 0, 0, (finT x o).1, y⟩)) fun a s => runP E n (kk a) s else some (.ok (finT x o).1 ⟨p, (finT x o).2⟩)) =
          img o (if tkT E p = sg then tbind (runT E n r (p + 1)) fun y p => runT E n (k2 (.bin (nd1 op) x y)) p else some (.ok x p)) := by
      intro sg op x r R kk k2 hr hn hk hkn
      refine ite_img ?_ rfl
      have e := ih r (p + 1) (finT x o).2
      rw [hr, hn] at e
      rw [e]
      refine img_bind (fun t p2 => ?_)
      have e2 := ih (k2 (.bin (nd1 op) x t)) p2 o
      rw [hk, hkn] at e2
      exact e2
    cases rule with
    | formula =>
      show obind (runP E n .implies ⟨p, o⟩) _ = img o (tbind (runT E n .implies p) _)
      rw [show runP E n .implies ⟨p, o⟩ = img o (runT E n .implies p) from ih .implies p o]
      exact img_bind (fun t p2 => ih (.iffL t) p2 o)
    | or =>
      show obind (runP E n .and ⟨p, o⟩) _ = img o (tbind (runT E n .and p) _)
      rw [show runP E n .and ⟨p, o⟩ = img o (runT E n .and p) from ih .and p o]
      exact img_bind (fun t p2 => ih (.orL t) p2 o)
    | and =>
      show obind (runP E n .pre ⟨p, o⟩) _ = img o (tbind (runT E n .pre p) _)
      rw [show runP E n .pre ⟨p, o⟩ = img o (runT E n .pre p) from ih .pre p o]
      exact img_bind (fun t p2 => ih (.andL t) p2 o)
    | iffL x => exact loopI (r := .implies) (kk := .iffL) (k2 := .iffL) (fun _ => rfl) (fun _ => rfl) (fun _ _ => rfl) (fun _ _ => rfl)
    | orL x => exact loopI (r := .and) (kk := .orL) (k2 := .orL) (fun _ => rfl) (fun _ => rfl) (fun _ _ => rfl) (fun _ _ => rfl)
    | andL x => exact loopI (r := .pre) (kk := .andL) (k2 := .andL) (fun _ => rfl) (fun _ => rfl) (fun _ _ => rfl) (fun _ _ => rfl)
    | implies =>
      show obind (runP E n .time ⟨p, o⟩) _ = img o (tbind (runT E n .time p) _)
      rw [show runP E n .time ⟨p, o⟩ = img o (runT E n .time p) from ih .time p o]
      refine img_bind (fun t p2 => ite_img ?_ rfl)
      show obind (runP E n .implies ⟨p2 + 1, (finT t o).2⟩) _ = _
      rw [show runP E n .implies ⟨p2 + 1, (finT t o).2⟩ = img (finT t o).2 (runT E n .implies (p2 + 1)) from ih .implies _ _]
      exact img_bind (fun t2 p3 => rfl)
    | time =>
      show obind (runP E n .or ⟨p, o⟩) _ = img o (tbind (runT E n .or p) _)
      rw [show runP E n .or ⟨p, o⟩ = img o (runT E n .or p) from ih .or p o]
      refine img_bind (fun t p2 => ite_img ?_ (ite_img ?_ rfl))
      · show obind (runP E n .time ⟨p2 + 1, (finT t o).2⟩) _ = _
        rw [show runP E n .time ⟨p2 + 1, (finT t o).2⟩ = img (finT t o).2 (runT E n .time (p2 + 1)) from ih .time _ _]
        exact img_bind (fun t2 p3 => rfl)
      · show obind (runP E n .time ⟨p2 + 1, (finT t o).2⟩) _ = _
        rw [show runP E n .time ⟨p2 + 1, (finT t o).2⟩ = img (finT t o).2 (runT E n .time (p2 + 1)) from ih .time _ _]
        exact img_bind (fun t2 p3 => rfl)
    | pre =>
      have pr : ∀ (r : TRule) (R : Rule) (p : Nat) (l : List Nd), r.num l = R → r.nodes l = l → runP E n R ⟨p, l⟩ = img l (runT E n r p) := fun r R p l h1 h2 => by
        have := ih r p l
        rw [h1, h2] at this
        exact this
      have un : ∀ (op i e g : Int) (p : Nat), (obind (runP E n .pre ⟨p, o⟩) fun x s => some (s.add ⟨op, i, e, g, x, 0⟩)) = img o (tbind (runT E n .pre p) fun x p => some (.ok (.un ⟨op, i, e, g, 0, 0⟩ x) p)) := by
        intro op i e g p
        rw [pr .pre .pre p o rfl rfl]
        exact img_bind (fun t p2 => rfl)
      have bar : ∀ {p : Nat} {k : Tr → Nat → Option TRes} {K : Nat → PSt → Option PRes}, (∀ t p, K (finT t o).1 ⟨p, (finT t o).2⟩ = img o (k t p)) →
          (if tkP E ⟨p, o⟩ = ⟨#[124]⟩ then obind (runP E n .formula ⟨p + 1, o⟩) K else obind (some (PSt.add ⟨p, o⟩ ⟨1, 0, 0, 0, 0, 0⟩)) K) = img o (if tkT E p = ⟨#[124]⟩ then tbind (runT E n .formula (p + 1)) k else k (.leaf (nd1 1)) p) := by
        intro p k K hk
        refine ite_img ?_ (hk (.leaf (nd1 1)) p)
        rw [pr .formula .formula (p + 1) o rfl rfl]
        exact img_bind hk
      have two : ∀ (op i g : Int) (c : Tr) (p : Nat), (expectP E ⟨#[93]⟩ ⟨p, (finT c o).2⟩ fun s => obind (runP E n .pre s) fun x s => some (s.add ⟨op, i, 0, g, (finT c o).1, x⟩)) =
          img o (expectT E ⟨#[93]⟩ p fun p => tbind (runT E n .pre p) fun x p => some (.ok (.bin ⟨op, i, 0, g, 0, 0⟩ c x) p)) := by
        intro op i g c p
        refine exp_img (fun p2 => ?_)
        rw [pr .pre .pre p2 _ rfl rfl]
        exact img_bind (fun t p3 => rfl)
      have nm : ∀ {what p : Nat} {k : Nat → Nat → Option TRes} {K : Nat → PSt → Option PRes}, (∀ v p, K v ⟨p, o⟩ = img o (k v p)) → obind (some (nameP E what ⟨p, o⟩)) K = img o (nbind (some (nameP E what ⟨p, []⟩)) k) := by
        intro what p k K hk
        rw [name_re]
        exact reN_bind hk
      have nb : ∀ {p : Nat} {k : Nat → Nat → Option TRes} {K : Nat → PSt → Option PRes}, (∀ v p, K v ⟨p, o⟩ = img o (k v p)) → obind (some (numberP E ⟨p, o⟩)) K = img o (nbind (some (numberP E ⟨p, []⟩)) k) := by
        intro p k K hk
        rw [number_re]
        exact reN_bind hk
      have ags : ∀ {m g p : Nat} {k : Nat → Nat → Option TRes} {K : Nat → PSt → Option PRes}, (∀ v p, K v ⟨p, o⟩ = img o (k v p)) → obind (agentsL E m g ⟨p, o⟩) K = img o (nbind (agentsL E m g ⟨p, []⟩) k) := by
        intro m g p k K hk
        rw [agents_re]
        exact reN_bind hk
      show runP E (n + 1) .pre ⟨p, o⟩ = _
      rw [runP, runT]
      dsimp only
      refine ite_img (un 4 0 0 0 _) ?_
      refine ite_img (un 18 0 0 0 _) ?_
      refine ite_img (un 20 0 0 0 _) ?_
      refine ite_img (exp_img (p := p + 1) (fun p2 => nm (fun a p3 => exp_img (fun p4 => un 9 a 0 0 p4)))) ?_
      refine ite_img (exp_img (p := p + 1) (fun p2 => nm (fun a p3 => exp_img (fun p4 => un 10 a 0 0 p4)))) ?_
      refine ite_img (exp_img (p := p + 1) (fun p2 => nm (fun a p3 => exp_img (fun p4 => un 15 a 0 0 p4)))) ?_
      refine ite_img (exp_img (p := p + 1) (fun p2 => nm (fun a p3 => bar (fun t p4 => two 14 a 0 t p4)))) ?_
      refine ite_img (exp_img (p := p + 1) (fun p2 => nm (fun a p3 => ags (fun g p4 => exp_img (fun p5 => un 11 0 0 g p5))))) ?_
      refine ite_img (exp_img (p := p + 1) (fun p2 => nm (fun a p3 => ags (fun g p4 => exp_img (fun p5 => un 12 0 0 g p5))))) ?_
      refine ite_img (exp_img (p := p + 1) (fun p2 => nm (fun a p3 => ags (fun g p4 => bar (fun t p5 => two 13 0 g t p5))))) ?_
      refine ite_img (ite_img (p := p + 1) ?_ (nm (p := p + 1) (fun a p2 => exp_img (fun p3 => nb (fun e p4 => exp_img (fun p5 => un 17 a e 0 p5)))))) ?_
      · show obind (runP E n .formula ⟨p + 1 + 1, o⟩) _ = _
        rw [pr .formula .formula (p + 1 + 1) o rfl rfl]
        exact img_bind (fun t p2 => two 16 0 0 t p2)
      refine ite_img rfl ?_
      refine ite_img rfl ?_
      refine ite_img ?_ (nm (fun a p2 => rfl))
      show obind (runP E n .formula ⟨p + 1, o⟩) _ = _
      rw [pr .formula .formula (p + 1) o rfl rfl]
      exact img_bind (fun t p2 => exp_img (fun p3 => rfl))
end Go.Proofs.Ws
/- Layer 6 as plain mathematics: the parser on trees, with enough fuel. -/
namespace Go.Proofs.Ws
open Go
def LeT (o o' : Option TRes) : Prop := ∀ r, o = some r → o' = some r
theorem LeT.refl (o : Option TRes) : LeT o o := fun _ h => h
theorem LeT.bind {a a' : Option TRes} {k k' : Tr → Nat → Option TRes} (h : LeT a a') (hk : ∀ v s, LeT (k v s) (k' v s)) : LeT (tbind a k) (tbind a' k') := by
  intro r hr
  match a, h, hr with
  | none, _, hr => cases hr
  | some (.ok t p), h, hr => rw [h _ rfl]; exact hk t p r hr
  | some (.err t e), h, hr => rw [h _ rfl]; exact hr
theorem LeT.nbind {a : Option PRes} {k k' : Nat → Nat → Option TRes} (hk : ∀ v s, LeT (k v s) (k' v s)) : LeT (nbind a k) (nbind a k') := by
  match a with
  | none => exact LeT.refl _
  | some (.ok v s) => exact hk v s.next
  | some (.err t e) => exact LeT.refl _
theorem LeT.ite {E : PEnv} {w : ByteArray} {p : Nat} {a a' b b' : Option TRes} (h1 : LeT a a') (h2 : LeT b b') : LeT (if tkT E p = w then a else b) (if tkT E p = w then a' else b') := by
  by_cases c : tkT E p = w
  · rw [if_pos c, if_pos c]; exact h1
  · rw [if_neg c, if_neg c]; exact h2
theorem LeT.expect {E : PEnv} {w : ByteArray} {p : Nat} {k k' : Nat → Option TRes} (hk : ∀ p, LeT (k p) (k' p)) : LeT (expectT E w p k) (expectT E w p k') := LeT.ite (hk _) (LeT.refl _)
theorem runT_more (E : PEnv) : ∀ (n : Nat) (rule : TRule) (p : Nat), LeT (runT E n rule p) (runT E (n + 1) rule p) := by
  intro n
  induction n with
  | zero => intro rule p r h; cases h
  | succ n ih =>
    intro rule p
    cases rule with
    | formula => exact LeT.bind (ih _ _) (fun x p => ih _ _)
    | or => exact LeT.bind (ih _ _) (fun x p => ih _ _)
    | and => exact LeT.bind (ih _ _) (fun x p => ih _ _)
    | iffL x => exact LeT.ite (LeT.bind (ih _ _) (fun y p => ih _ _)) (LeT.refl _)
    | orL x => exact LeT.ite (LeT.bind (ih _ _) (fun y p => ih _ _)) (LeT.refl _)
    | andL x => exact LeT.ite (LeT.bind (ih _ _) (fun y p => ih _ _)) (LeT.refl _)
    | implies => exact LeT.bind (ih _ _) (fun x p => LeT.ite (LeT.bind (ih _ _) (fun y p => LeT.refl _)) (LeT.refl _))
    | time => exact LeT.bind (ih _ _) (fun x p => LeT.ite (LeT.bind (ih _ _) (fun y p => LeT.refl _)) (LeT.ite (LeT.bind (ih _ _) (fun y p => LeT.refl _)) (LeT.refl _)))
    | pre =>
      have un : ∀ {nd : Nd} {p : Nat}, LeT (tbind (runT E n .pre p) fun x p => some (.ok (.un nd x) p)) (tbind (runT E (n + 1) .pre p) fun x p => some (.ok (.un nd x) p)) := LeT.bind (ih _ _) (fun x p => LeT.refl _)
      have bar : ∀ {p : Nat} {k k' : Tr → Nat → Option TRes}, (∀ c p, LeT (k c p) (k' c p)) → LeT (if tkT E p = ⟨#[124]⟩ then tbind (runT E n .formula (p + 1)) k else k (.leaf (nd1 1)) p) (if tkT E p = ⟨#[124]⟩ then tbind (runT E (n + 1) .formula (p + 1)) k' else k' (.leaf (nd1 1)) p) := fun hk => LeT.ite (LeT.bind (ih _ _) hk) (hk _ _)
      have two : ∀ {nd : Nd} {c : Tr} {p : Nat}, LeT (expectT E ⟨#[93]⟩ p fun p => tbind (runT E n .pre p) fun x p => some (.ok (.bin nd c x) p)) (expectT E ⟨#[93]⟩ p fun p => tbind (runT E (n + 1) .pre p) fun x p => some (.ok (.bin nd c x) p)) := LeT.expect (fun p => LeT.bind (ih _ _) (fun x p => LeT.refl _))
      have ag : ∀ {op : Int} {p : Nat}, LeT (expectT E ⟨#[91]⟩ p fun p => nbind (some (nameP E 1 ⟨p, []⟩)) fun a p => expectT E ⟨#[93]⟩ p fun p => tbind (runT E n .pre p) fun x p => some (.ok (.un ⟨op, a, 0, 0, 0, 0⟩ x) p)) (expectT E ⟨#[91]⟩ p fun p => nbind (some (nameP E 1 ⟨p, []⟩)) fun a p => expectT E ⟨#[93]⟩ p fun p => tbind (runT E (n + 1) .pre p) fun x p => some (.ok (.un ⟨op, a, 0, 0, 0, 0⟩ x) p)) := LeT.expect (fun p => LeT.nbind (fun a p => LeT.expect (fun p => un)))
      have gr : ∀ {op : Int} {p : Nat}, LeT (expectT E ⟨#[91]⟩ p fun p => nbind (some (nameP E 1 ⟨p, []⟩)) fun a p => nbind (agentsL E (E.ws.length + 1) (2 ^ a) ⟨p, []⟩) fun g p => expectT E ⟨#[93]⟩ p fun p => tbind (runT E n .pre p) fun x p => some (.ok (.un ⟨op, 0, 0, g, 0, 0⟩ x) p)) (expectT E ⟨#[91]⟩ p fun p => nbind (some (nameP E 1 ⟨p, []⟩)) fun a p => nbind (agentsL E (E.ws.length + 1) (2 ^ a) ⟨p, []⟩) fun g p => expectT E ⟨#[93]⟩ p fun p => tbind (runT E (n + 1) .pre p) fun x p => some (.ok (.un ⟨op, 0, 0, g, 0, 0⟩ x) p)) := LeT.expect (fun p => LeT.nbind (fun a p => LeT.nbind (fun g p => LeT.expect (fun p => un))))
      rw [runT, runT]
      dsimp only
      refine LeT.ite un ?_
      refine LeT.ite un ?_
      refine LeT.ite un ?_
      refine LeT.ite ag ?_
      refine LeT.ite ag ?_
      refine LeT.ite ag ?_
      refine LeT.ite (LeT.expect (fun p => LeT.nbind (fun a p => bar (fun c p => two)))) ?_
      refine LeT.ite gr ?_
      refine LeT.ite gr ?_
      refine LeT.ite (LeT.expect (fun p => LeT.nbind (fun a p => LeT.nbind (fun g p => bar (fun c p => two))))) ?_
      refine LeT.ite (LeT.ite (LeT.bind (ih _ _) (fun c p => two)) (LeT.nbind (fun a p => LeT.expect (fun p => LeT.nbind (fun e p => LeT.expect (fun p => un)))))) ?_
      refine LeT.ite (LeT.refl _) ?_
      refine LeT.ite (LeT.refl _) ?_
      exact LeT.ite (LeT.bind (ih _ _) (fun x p => LeT.refl _)) (LeT.refl _)
theorem runT_fuel (E : PEnv) {n m : Nat} (h : n ≤ m) (rule : TRule) (p : Nat) : LeT (runT E n rule p) (runT E m rule p) := by
  induction h with
  | refl => exact LeT.refl _
  | step _ ih => exact fun r hr => runT_more E _ rule p r (ih r hr)
/-- with some fuel, the rule reads this tree -/
def Runs (E : PEnv) (rule : TRule) (p : Nat) (t : Tr) (p' : Nat) : Prop := ∃ n, runT E n rule p = some (.ok t p')
theorem Runs.two {E : PEnv} {r1 r2 : TRule} {p1 p2 p1' p2' : Nat} {t1 t2 : Tr} (h1 : Runs E r1 p1 t1 p1') (h2 : Runs E r2 p2 t2 p2') : ∃ n, runT E n r1 p1 = some (.ok t1 p1') ∧ runT E n r2 p2 = some (.ok t2 p2') := by
  obtain ⟨n, hn⟩ := h1
  obtain ⟨m, hm⟩ := h2
  exact ⟨n + m, runT_fuel E (Nat.le_add_right n m) _ _ _ hn, runT_fuel E (Nat.le_add_left m n) _ _ _ hm⟩
theorem Runs.loopEnd {E : PEnv} {p : Nat} {x : Tr} (h : tkT E p ≠ ⟨#[38]⟩) : Runs E (.andL x) p x p := ⟨1, by show (if tkT E p = _ then _ else _) = _; rw [if_neg h]⟩
theorem Runs.orEnd {E : PEnv} {p : Nat} {x : Tr} (h : tkT E p ≠ ⟨#[124]⟩) : Runs E (.orL x) p x p := ⟨1, by show (if tkT E p = _ then _ else _) = _; rw [if_neg h]⟩
theorem Runs.iffEnd {E : PEnv} {p : Nat} {x : Tr} (h : tkT E p ≠ ⟨#[60, 45, 62]⟩) : Runs E (.iffL x) p x p := ⟨1, by show (if tkT E p = _ then _ else _) = _; rw [if_neg h]⟩
theorem Runs.and {E : PEnv} {p p1 p' : Nat} {x t : Tr} (h1 : Runs E .pre p x p1) (h2 : Runs E (.andL x) p1 t p') : Runs E .and p t p' := by
  obtain ⟨n, e1, e2⟩ := Runs.two h1 h2
  exact ⟨n + 1, by show tbind (runT E n .pre p) _ = _; rw [e1]; exact e2⟩
theorem Runs.or {E : PEnv} {p p1 p' : Nat} {x t : Tr} (h1 : Runs E .and p x p1) (h2 : Runs E (.orL x) p1 t p') : Runs E .or p t p' := by
  obtain ⟨n, e1, e2⟩ := Runs.two h1 h2
  exact ⟨n + 1, by show tbind (runT E n .and p) _ = _; rw [e1]; exact e2⟩
theorem Runs.formula {E : PEnv} {p p1 p' : Nat} {x t : Tr} (h1 : Runs E .implies p x p1) (h2 : Runs E (.iffL x) p1 t p') : Runs E .formula p t p' := by
  obtain ⟨n, e1, e2⟩ := Runs.two h1 h2
  exact ⟨n + 1, by show tbind (runT E n .implies p) _ = _; rw [e1]; exact e2⟩
theorem Runs.andMore {E : PEnv} {p p1 p' : Nat} {x y t : Tr} (hc : tkT E p = ⟨#[38]⟩) (h1 : Runs E .pre (p + 1) y p1) (h2 : Runs E (.andL (.bin (nd1 5) x y)) p1 t p') : Runs E (.andL x) p t p' := by
  obtain ⟨n, e1, e2⟩ := Runs.two h1 h2
  exact ⟨n + 1, by show (if tkT E p = _ then tbind (runT E n .pre (p + 1)) _ else _) = _; rw [if_pos hc, e1]; exact e2⟩
theorem Runs.orMore {E : PEnv} {p p1 p' : Nat} {x y t : Tr} (hc : tkT E p = ⟨#[124]⟩) (h1 : Runs E .and (p + 1) y p1) (h2 : Runs E (.orL (.bin (nd1 6) x y)) p1 t p') : Runs E (.orL x) p t p' := by
  obtain ⟨n, e1, e2⟩ := Runs.two h1 h2
  exact ⟨n + 1, by show (if tkT E p = _ then tbind (runT E n .and (p + 1)) _ else _) = _; rw [if_pos hc, e1]; exact e2⟩
theorem Runs.iffMore {E : PEnv} {p p1 p' : Nat} {x y t : Tr} (hc : tkT E p = ⟨#[60, 45, 62]⟩) (h1 : Runs E .implies (p + 1) y p1) (h2 : Runs E (.iffL (.bin (nd1 8) x y)) p1 t p') : Runs E (.iffL x) p t p' := by
  obtain ⟨n, e1, e2⟩ := Runs.two h1 h2
  exact ⟨n + 1, by show (if tkT E p = _ then tbind (runT E n .implies (p + 1)) _ else _) = _; rw [if_pos hc, e1]; exact e2⟩
theorem Runs.time {E : PEnv} {p p1 : Nat} {x : Tr} (h1 : Runs E .or p x p1) (hu : tkT E p1 ≠ ⟨#[117, 110, 116, 105, 108]⟩) (hs : tkT E p1 ≠ ⟨#[115, 105, 110, 99, 101]⟩) : Runs E .time p x p1 := by
  obtain ⟨n, e1⟩ := h1
  exact ⟨n + 1, by show tbind (runT E n .or p) _ = _; rw [e1]; show (if tkT E p1 = _ then _ else if tkT E p1 = _ then _ else _) = _; rw [if_neg hu, if_neg hs]⟩
theorem Runs.until {E : PEnv} {p p1 p2 : Nat} {x y : Tr} (h1 : Runs E .or p x p1) (hu : tkT E p1 = ⟨#[117, 110, 116, 105, 108]⟩) (h2 : Runs E .time (p1 + 1) y p2) : Runs E .time p (.bin (nd1 19) x y) p2 := by
  obtain ⟨n, e1, e2⟩ := Runs.two h1 h2
  exact ⟨n + 1, by show tbind (runT E n .or p) _ = _; rw [e1]; show (if tkT E p1 = _ then tbind (runT E n .time (p1 + 1)) _ else _) = _; rw [if_pos hu, e2]; rfl⟩
theorem Runs.since {E : PEnv} {p p1 p2 : Nat} {x y : Tr} (h1 : Runs E .or p x p1) (hs : tkT E p1 = ⟨#[115, 105, 110, 99, 101]⟩) (h2 : Runs E .time (p1 + 1) y p2) : Runs E .time p (.bin (nd1 21) x y) p2 := by
  obtain ⟨n, e1, e2⟩ := Runs.two h1 h2
  exact ⟨n + 1, by show tbind (runT E n .or p) _ = _; rw [e1]; show (if tkT E p1 = _ then _ else if tkT E p1 = _ then tbind (runT E n .time (p1 + 1)) _ else _) = _; rw [if_neg (by rw [hs]; decide), if_pos hs, e2]; rfl⟩
theorem Runs.implies {E : PEnv} {p p1 : Nat} {x : Tr} (h1 : Runs E .time p x p1) (hi : tkT E p1 ≠ ⟨#[45, 62]⟩) : Runs E .implies p x p1 := by
  obtain ⟨n, e1⟩ := h1
  exact ⟨n + 1, by show tbind (runT E n .time p) _ = _; rw [e1]; show (if tkT E p1 = _ then _ else _) = _; rw [if_neg hi]⟩
theorem Runs.arrow {E : PEnv} {p p1 p2 : Nat} {x y : Tr} (h1 : Runs E .time p x p1) (hi : tkT E p1 = ⟨#[45, 62]⟩) (h2 : Runs E .implies (p1 + 1) y p2) : Runs E .implies p (.bin (nd1 7) x y) p2 := by
  obtain ⟨n, e1, e2⟩ := Runs.two h1 h2
  exact ⟨n + 1, by show tbind (runT E n .time p) _ = _; rw [e1]; show (if tkT E p1 = _ then tbind (runT E n .implies (p1 + 1)) _ else _) = _; rw [if_pos hi, e2]; rfl⟩
theorem Runs.paren {E : PEnv} {p p1 : Nat} {x : Tr} (hc : tkT E p = ⟨#[40]⟩) (h1 : Runs E .formula (p + 1) x p1) (he : tkT E p1 = ⟨#[41]⟩) : Runs E .pre p x (p1 + 1) := by
  obtain ⟨n, e1⟩ := h1
  refine ⟨n + 1, ?_⟩
  rw [runT]
  dsimp only
  rw [hc]
  iterate 13 rw [if_neg (by decide)]
  rw [if_pos rfl, e1]
  show expectT E ⟨#[41]⟩ p1 (fun p => some (.ok x p)) = some (.ok x (p1 + 1))
  unfold expectT
  rw [if_pos he]
end Go.Proofs.Ws
/- Layer 6 as plain mathematics: tokens of texts that are put together. -/
namespace Go.Proofs.Ws
open Go
/-- the tokens of a text with their places -/
inductive TokR : List UInt8 → Nat → List (List UInt8 × Nat) → Prop where
  | nil (i : Nat) : TokR [] i []
  | space {c : UInt8} {r : List UInt8} {i : Nat} {ts : List (List UInt8 × Nat)} (hs : spaceN c.toNat = true) (h : TokR r (i + 1) ts) : TokR (c :: r) i ts
  | word {c : UInt8} {r : List UInt8} {i : Nat} {ts : List (List UInt8 × Nat)} (hs : spaceN c.toNat = false) (hp : partL (c :: r) ≠ 0) (h : TokR ((c :: r).drop (partL (c :: r))) (i + partL (c :: r)) ts) :
      TokR (c :: r) i (((c :: r).take (partL (c :: r)), i) :: ts)
def wordsT (ts : List (List UInt8 × Nat)) : List ByteArray := ts.map (fun p => ⟨p.1.toArray⟩)
/-- nothing that goes on a word or a number -/
def Brk (l : List UInt8) : Prop := ∀ c r, l = c :: r → wordN c.toNat = false
theorem scan_app (p : Nat → Bool) (hp : ∀ m, p m = true → wordN m = true) {b : List UInt8} (hb : Brk b) : ∀ l : List UInt8, scanL p (l ++ b) = scanL p l
  | [] => by
    cases b with
    | nil => rfl
    | cons c r =>
      have := hb c r rfl
      show (if p c.toNat = true then scanL p r + 1 else 0) = 0
      rw [if_neg (fun h => by rw [hp _ h] at this; cases this)]
  | c :: l => by
    show (if p c.toNat = true then scanL p (l ++ b) + 1 else 0) = (if p c.toNat = true then scanL p l + 1 else 0)
    rw [scan_app p hp hb l]
theorem digN_word (m : Nat) (h : digN m = true) : wordN m = true := by unfold wordN; rw [h, Bool.or_true]
theorem part_app {l b : List UInt8} (hb : Brk b) (h : partL l ≠ 0) : partL (l ++ b) = partL l := by
  cases l with
  | nil => exact absurd rfl h
  | cons c r =>
    show (if letN c.toNat = true then scanL wordN (c :: r ++ b) else if digN c.toNat = true then scanL digN (c :: r ++ b) else if [60, 45, 62] <+: (c :: r ++ b) then 3 else if [45, 62] <+: (c :: r ++ b) then 2 else if c.toNat ∈ markL then 1 else 0) = _
    have h2 : partL (c :: r) = (if letN c.toNat = true then scanL wordN (c :: r) else if digN c.toNat = true then scanL digN (c :: r) else if [60, 45, 62] <+: (c :: r) then 3 else if [45, 62] <+: (c :: r) then 2 else if c.toNat ∈ markL then 1 else 0) := rfl
    rw [h2] at h ⊢
    by_cases h3 : letN c.toNat = true
    · rw [if_pos h3, if_pos h3, scan_app _ (fun _ h => h) hb]
    · rw [if_neg h3] at h ⊢
      rw [if_neg h3]
      by_cases h4 : digN c.toNat = true
      · rw [if_pos h4, if_pos h4, scan_app _ digN_word hb]
      · rw [if_neg h4] at h ⊢
        rw [if_neg h4]
        by_cases h5 : [60, 45, 62] <+: (c :: r)
        · rw [if_pos h5, if_pos (h5.trans (List.prefix_append _ _))]
        · rw [if_neg h5] at h ⊢
          by_cases h6 : [45, 62] <+: (c :: r)
          · rw [if_pos h6, if_pos (h6.trans (List.prefix_append _ _))]
            rw [if_neg]
            intro h7
            obtain ⟨t, ht⟩ := h6
            obtain ⟨t', ht'⟩ := h7
            rw [← ht] at ht'
            simp at ht'
          · rw [if_neg h6] at h ⊢
            by_cases h7 : c.toNat ∈ markL
            · have hc : ∀ z : UInt8, z.toNat ∉ markL → ∀ t, ¬ (z :: t) <+: (c :: r ++ b) := by
                intro z hz t ht
                obtain ⟨t', ht'⟩ := ht
                simp at ht'
                rw [ht'.1] at hz
                exact hz h7
              rw [if_neg (hc 60 (by decide) _), if_neg (hc 45 (by decide) _)]
            · rw [if_neg h7] at h; exact absurd rfl h
theorem TokR.app {l : List UInt8} {i : Nat} {t1 t2 : List (List UInt8 × Nat)} {b : List UInt8} (h : TokR l i t1) (hb : Brk b) : TokR b (i + l.length) t2 → TokR (l ++ b) i (t1 ++ t2) := by
  induction h with
  | nil i => intro h2; exact h2
  | space hs _ ih =>
    intro h2
    refine TokR.space hs (ih ?_)
    rw [show ∀ a n : Nat, a + 1 + n = a + (n + 1) from fun a n => by omega]
    exact h2
  | @word c r i ts hs hp _ ih =>
    intro h2
    have hle := partL_le (c :: r)
    have e := part_app (l := c :: r) hb hp
    have h3 := ih (by rw [List.length_drop, show i + partL (c :: r) + ((c :: r).length - partL (c :: r)) = i + (c :: r).length from by omega]; exact h2)
    have h4 := TokR.word (c := c) (r := r ++ b) (i := i) (ts := ts ++ t2) hs (by show partL (c :: r ++ b) ≠ 0; rw [e]; exact hp) (by
      show TokR ((c :: r ++ b).drop (partL (c :: r ++ b))) (i + partL (c :: r ++ b)) _
      rw [e, List.drop_append_of_le_length hle]
      exact h3)
    have e2 : (c :: (r ++ b)).take (partL (c :: (r ++ b))) = (c :: r).take (partL (c :: r)) := by
      show (c :: r ++ b).take (partL (c :: r ++ b)) = _
      rw [e, List.take_append_of_le_length hle]
    rw [e2] at h4
    exact h4
/-- a token by itself -/
def IsTok (w : List UInt8) : Prop := ∃ c r, w = c :: r ∧ spaceN c.toNat = false ∧ partL w = w.length
theorem TokR.one {w : List UInt8} (h : IsTok w) (i : Nat) : TokR w i [(w, i)] := by
  obtain ⟨c, r, rfl, hs, hp⟩ := h
  have h1 := TokR.word (c := c) (r := r) (i := i) (ts := []) hs (by rw [hp]; simp) (by rw [hp, List.drop_length]; exact TokR.nil _)
  rw [hp, List.take_length] at h1
  exact h1
theorem TokR.spaces {l : List UInt8} (h : ∀ c ∈ l, spaceN c.toNat = true) (i : Nat) : TokR l i [] := by
  induction l generalizing i with
  | nil => exact TokR.nil i
  | cons c r ih => exact TokR.space (h c (by simp)) (ih (fun d hd => h d (by simp [hd])) (i + 1))
theorem brk_space {c : UInt8} {r : List UInt8} (h : spaceN c.toNat = true) : Brk (c :: r) := by
  intro d t e
  injection e with e1 _
  rw [← e1]
  unfold spaceN at h
  simp only [Bool.or_eq_true, decide_eq_true_eq] at h
  unfold wordN letN digN
  simp
  omega
end Go.Proofs.Ws
/- Layer 6 as plain mathematics: a tree that is read has its fields in range and its names in the signature. -/
namespace Go.Proofs.YtenbhalnpiahaaaGreatDoor
open Go.RowKit Go.Proofs.Ws Go.Maps
def TOk (E : PEnv) (t : Tr) : Prop := trOk t ∧ trAll (okE E) t
theorem TOk.leaf {E : PEnv} {n : Nd} (hb : bare n = n) (hf : okE E n) (hx : usesX n.op = false) : TOk E (.leaf n) := by
  have hy : usesY n.op = false := by
    cases h : usesY n.op with
    | false => rfl
    | true => have := usesY_X h; rw [hx] at this; cases this
  exact ⟨⟨hx, hy, hb⟩, hf⟩
theorem TOk.un {E : PEnv} {n : Nd} {t : Tr} (ht : TOk E t) (hb : bare n = n) (hf : okE E n) (hx : usesX n.op = true) (hy : usesY n.op = false) : TOk E (.un n t) := ⟨⟨hx, hy, hb, ht.1⟩, ⟨hf, ht.2⟩⟩
theorem TOk.bin {E : PEnv} {n : Nd} {t t2 : Tr} (ht : TOk E t) (ht2 : TOk E t2) (hb : bare n = n) (hf : okE E n) (hx : usesX n.op = true) (hy : usesY n.op = true) : TOk E (.bin n t t2) := ⟨⟨hx, hy, hb, ht.1, ht2.1⟩, ⟨hf, ht.2, ht2.2⟩⟩
theorem tbind_ok {r : Option TRes} {k : Tr → Nat → Option TRes} {t : Tr} {p' : Nat} (h : tbind r k = some (.ok t p')) : ∃ t1 p1, r = some (.ok t1 p1) ∧ k t1 p1 = some (.ok t p') := by
  unfold tbind at h
  split at h
  · rename_i t1 p1; exact ⟨t1, p1, rfl, h⟩
  · injection h with h; cases h
  · cases h
theorem nbind_ok {r : Option PRes} {k : Nat → Nat → Option TRes} {t : Tr} {p' : Nat} (h : nbind r k = some (.ok t p')) : ∃ a s, r = some (.ok a s) ∧ k a s.next = some (.ok t p') := by
  unfold nbind at h
  split at h
  · rename_i a s; exact ⟨a, s, rfl, h⟩
  · injection h with h; cases h
  · cases h
theorem expectT_ok {E : PEnv} {w : ByteArray} {p p' : Nat} {k : Nat → Option TRes} {t : Tr} (h : expectT E w p k = some (.ok t p')) : k (p + 1) = some (.ok t p') := by
  unfold expectT at h
  split at h
  · exact h
  · injection h with h; cases h
/-- the accumulator of a loop -/
def TRule.good (E : PEnv) : TRule → Prop
  | .iffL x => TOk E x
  | .orL x => TOk E x
  | .andL x => TOk E x
  | _ => True
set_option maxHeartbeats 2000000 in
theorem runT_ok {E : PEnv} (hE : ShortE E) : ∀ (n : Nat) (rule : TRule) (p p' : Nat) (t : Tr), TRule.good E rule → Ws.runT E n rule p = some (.ok t p') → TOk E t := by
  intro n
  induction n with
  | zero => intro rule p p' t _ h; cases h
  | succ n ih =>
    intro rule p p' t hg h
    have loop1 : ∀ {sg : ByteArray} {op : Int} {x : Tr} {r : TRule} {k : Tr → TRule} (_ : TRule.good E r) (_ : ∀ a, TOk E a → TRule.good E (k a)) (_ : okE E (nd1 op)) (_ : usesX op = true) (_ : usesY op = true), TOk E x →
        (if tkT E p = sg then tbind (Ws.runT E n r (p + 1)) fun y p => Ws.runT E n (k (.bin (nd1 op) x y)) p else some (.ok x p)) = some (.ok t p') → TOk E t := by
      intro sg op x r k hr hk hf hux huy hx h
      split at h
      · obtain ⟨y, p1, h1, h2⟩ := tbind_ok h
        exact ih _ _ _ _ (hk _ (TOk.bin (n := nd1 op) hx (ih _ _ _ _ hr h1) rfl hf hux huy)) h2
      · injection h with h
        injection h with h3 h4
        rw [← h3]
        exact hx
    have two1 : ∀ {op : Int} {x : Tr} {r : TRule} {p1 : Nat} (_ : TRule.good E r) (_ : okE E (nd1 op)) (_ : usesX op = true) (_ : usesY op = true), TOk E x →
        (tbind (Ws.runT E n r p1) fun y p => some (.ok (.bin (nd1 op) x y) p)) = some (.ok t p') → TOk E t := by
      intro op x r p1 hr hf hux huy hx h
      obtain ⟨y, p2, h1, h2⟩ := tbind_ok h
      injection h2 with h2
      injection h2 with h3 h4
      rw [← h3]
      exact TOk.bin (n := nd1 op) hx (ih _ _ _ _ hr h1) rfl hf hux huy
    have one1 : ∀ {x : Tr} {p1 : Nat}, TOk E x → (some (.ok x p1) : Option TRes) = some (.ok t p') → TOk E t := by
      intro x p1 hx h
      injection h with h
      injection h with h3 h4
      rw [← h3]
      exact hx
    cases rule with
    | formula =>
      unfold Ws.runT at h
      obtain ⟨x, s1, h1, h2⟩ := tbind_ok h
      exact ih (.iffL x) _ _ _ (ih .implies _ _ _ trivial h1) h2
    | or =>
      unfold Ws.runT at h
      obtain ⟨x, s1, h1, h2⟩ := tbind_ok h
      exact ih (.orL x) _ _ _ (ih .and _ _ _ trivial h1) h2
    | and =>
      unfold Ws.runT at h
      obtain ⟨x, s1, h1, h2⟩ := tbind_ok h
      exact ih (.andL x) _ _ _ (ih .pre _ _ _ trivial h1) h2
    | iffL x => unfold Ws.runT at h; exact loop1 (r := .implies) (k := .iffL) trivial (fun _ h => h) (okE_plain (by decide) (by decide) rfl) rfl rfl hg h
    | orL x => unfold Ws.runT at h; exact loop1 (r := .and) (k := .orL) trivial (fun _ h => h) (okE_plain (by decide) (by decide) rfl) rfl rfl hg h
    | andL x => unfold Ws.runT at h; exact loop1 (r := .pre) (k := .andL) trivial (fun _ h => h) (okE_plain (by decide) (by decide) rfl) rfl rfl hg h
    | implies =>
      unfold Ws.runT at h
      obtain ⟨x, s1, h1, h2⟩ := tbind_ok h
      have hx := ih .time _ _ _ trivial h1
      split at h2
      · exact two1 (r := .implies) trivial (okE_plain (by decide) (by decide) rfl) rfl rfl hx h2
      · exact one1 hx h2
    | time =>
      unfold Ws.runT at h
      obtain ⟨x, s1, h1, h2⟩ := tbind_ok h
      have hx := ih .or _ _ _ trivial h1
      split at h2
      · exact two1 (r := .time) trivial (okE_plain (by decide) (by decide) rfl) rfl rfl hx h2
      · split at h2
        · exact two1 (r := .time) trivial (okE_plain (by decide) (by decide) rfl) rfl rfl hx h2
        · exact one1 hx h2
    | pre =>
      have unI : ∀ {op i e g : Int} {p1 : Nat}, usesX op = true → usesY op = false → okE E ⟨op, i, e, g, 0, 0⟩ →
          (tbind (Ws.runT E n .pre p1) fun x p => some (.ok (.un ⟨op, i, e, g, 0, 0⟩ x) p)) = some (.ok t p') → TOk E t := by
        intro op i e g p1 hux huy hf h
        obtain ⟨x, p2, h1, h2⟩ := tbind_ok h
        exact one1 (TOk.un (n := ⟨op, i, e, g, 0, 0⟩) (ih .pre _ _ _ trivial h1) rfl hf hux huy) h2
      have binI : ∀ {op i g : Int} {c : Tr} {p1 : Nat}, TOk E c → usesX op = true → usesY op = true → okE E ⟨op, i, 0, g, 0, 0⟩ →
          (expectT E ⟨#[93]⟩ p1 fun p => tbind (Ws.runT E n .pre p) fun x p => some (.ok (.bin ⟨op, i, 0, g, 0, 0⟩ c x) p)) = some (.ok t p') → TOk E t := by
        intro op i g c p1 hc hux huy hf h
        obtain ⟨x, p2, h1, h2⟩ := tbind_ok (expectT_ok h)
        exact one1 (TOk.bin (n := ⟨op, i, 0, g, 0, 0⟩) hc (ih .pre _ _ _ trivial h1) rfl hf hux huy) h2
      have agR : ∀ {op : Int}, (op = 9 ∨ op = 10 ∨ op = 15) →
          (expectT E ⟨#[91]⟩ (p + 1) fun p => nbind (some (nameP E 1 ⟨p, []⟩)) fun a p => expectT E ⟨#[93]⟩ p fun p => tbind (Ws.runT E n .pre p) fun x p => some (.ok (.un ⟨op, a, 0, 0, 0, 0⟩ x) p)) = some (.ok t p') → TOk E t := by
        intro op ho h
        obtain ⟨a, s1, h1, h2⟩ := nbind_ok (expectT_ok h)
        obtain ⟨ha, _⟩ := name_ok h1
        have ha4 : a < E.A.length := by simpa using ha
        refine unI ?_ ?_ (fld_agent hE (by omega) ha4) (expectT_ok h2)
        · rcases ho with rfl | rfl | rfl <;> rfl
        · rcases ho with rfl | rfl | rfl <;> rfl
      have grR : ∀ {op : Int}, (op = 11 ∨ op = 12) →
          (expectT E ⟨#[91]⟩ (p + 1) fun p => nbind (some (nameP E 1 ⟨p, []⟩)) fun a p => nbind (agentsL E (E.ws.length + 1) (2 ^ a) ⟨p, []⟩) fun g p => expectT E ⟨#[93]⟩ p fun p => tbind (Ws.runT E n .pre p) fun x p => some (.ok (.un ⟨op, 0, 0, g, 0, 0⟩ x) p)) = some (.ok t p') → TOk E t := by
        intro op ho h
        obtain ⟨a, s1, h1, h2⟩ := nbind_ok (expectT_ok h)
        obtain ⟨ha, _⟩ := name_ok h1
        have ha4 : a < E.A.length := by simpa using ha
        obtain ⟨g, s2, h3, h4⟩ := nbind_ok h2
        obtain ⟨g1, g2, _⟩ := agents_ok _ _ _ _ _ (Nat.two_pow_pos a) (Nat.pow_lt_pow_right (by decide) ha4) h3
        refine unI ?_ ?_ (fld_group hE (by omega) g1 g2) (expectT_ok h4)
        · rcases ho with rfl | rfl <;> rfl
        · rcases ho with rfl | rfl <;> rfl
      have barR : ∀ {p1 : Nat} {k : Tr → Nat → Option TRes}, (if tkT E p1 = ⟨#[124]⟩ then tbind (Ws.runT E n .formula (p1 + 1)) k else k (.leaf (nd1 1)) p1) = some (.ok t p') →
          ∃ c p2, TOk E c ∧ k c p2 = some (.ok t p') := by
        intro p1 k h
        split at h
        · obtain ⟨c, p2, h1, h2⟩ := tbind_ok h
          exact ⟨c, p2, ih .formula _ _ _ trivial h1, h2⟩
        · exact ⟨_, p1, TOk.leaf (n := nd1 1) rfl (okE_plain (by decide) (by decide) rfl) rfl, h⟩
      unfold Ws.runT at h
      dsimp only at h
      by_cases c0 : tkT E p = ⟨#[126]⟩
      · rw [if_pos c0] at h
        exact unI (op := 4) rfl rfl (okE_plain (by decide) (by decide) rfl) h
      rw [if_neg c0] at h
      by_cases c1 : tkT E p = ⟨#[110, 101, 120, 116]⟩
      · rw [if_pos c1] at h
        exact unI (op := 18) rfl rfl (okE_plain (by decide) (by decide) rfl) h
      rw [if_neg c1] at h
      by_cases c2 : tkT E p = ⟨#[112, 114, 101, 118]⟩
      · rw [if_pos c2] at h
        exact unI (op := 20) rfl rfl (okE_plain (by decide) (by decide) rfl) h
      rw [if_neg c2] at h
      by_cases c3 : tkT E p = ⟨#[75]⟩
      · rw [if_pos c3] at h
        exact agR (by omega) h
      rw [if_neg c3] at h
      by_cases c4 : tkT E p = ⟨#[77]⟩
      · rw [if_pos c4] at h
        exact agR (by omega) h
      rw [if_neg c4] at h
      by_cases c5 : tkT E p = ⟨#[83]⟩
      · rw [if_pos c5] at h
        exact agR (by omega) h
      rw [if_neg c5] at h
      by_cases c6 : tkT E p = ⟨#[66]⟩
      · rw [if_pos c6] at h
        obtain ⟨a, s1, h1, h2⟩ := nbind_ok (expectT_ok h)
        obtain ⟨ha, _⟩ := name_ok h1
        have ha4 : a < E.A.length := by simpa using ha
        obtain ⟨c, p2, hc, h3⟩ := barR h2
        exact binI hc rfl rfl (fld_agent hE (by omega) ha4) h3
      rw [if_neg c6] at h
      by_cases c7 : tkT E p = ⟨#[69]⟩
      · rw [if_pos c7] at h
        exact grR (by omega) h
      rw [if_neg c7] at h
      by_cases c8 : tkT E p = ⟨#[68]⟩
      · rw [if_pos c8] at h
        exact grR (by omega) h
      rw [if_neg c8] at h
      by_cases c9 : tkT E p = ⟨#[67]⟩
      · rw [if_pos c9] at h
        obtain ⟨a, s1, h1, h2⟩ := nbind_ok (expectT_ok h)
        obtain ⟨ha, _⟩ := name_ok h1
        have ha4 : a < E.A.length := by simpa using ha
        obtain ⟨g, s2, h3, h4⟩ := nbind_ok h2
        obtain ⟨g1, g2, _⟩ := agents_ok _ _ _ _ _ (Nat.two_pow_pos a) (Nat.pow_lt_pow_right (by decide) ha4) h3
        obtain ⟨c, p2, hc, h5⟩ := barR h4
        exact binI hc rfl rfl (fld_group hE (by omega) g1 g2) h5
      rw [if_neg c9] at h
      by_cases c10 : tkT E p = ⟨#[91]⟩
      · rw [if_pos c10] at h
        split at h
        · obtain ⟨c, p2, h1, h2⟩ := tbind_ok h
          exact binI (ih .formula _ _ _ trivial h1) rfl rfl (okE_plain (by decide) (by decide) rfl) h2
        · obtain ⟨a, s1, h1, h2⟩ := nbind_ok h
          obtain ⟨ha, _⟩ := name_ok h1
          have ha8 : a < E.X.length := by simpa using ha
          obtain ⟨e, s2, h3, h4⟩ := nbind_ok (expectT_ok h2)
          obtain ⟨he, _⟩ := number_ok h3
          exact unI rfl rfl (fld_num hE he (Or.inr ⟨rfl, ha8⟩)) (expectT_ok h4)
      rw [if_neg c10] at h
      by_cases c11 : tkT E p = ⟨#[116, 114, 117, 101]⟩
      · rw [if_pos c11] at h
        exact one1 (TOk.leaf (n := nd1 1) rfl (okE_plain (by decide) (by decide) rfl) rfl) h
      rw [if_neg c11] at h
      by_cases c12 : tkT E p = ⟨#[102, 97, 108, 115, 101]⟩
      · rw [if_pos c12] at h
        exact one1 (TOk.leaf (n := nd1 2) rfl (okE_plain (by decide) (by decide) rfl) rfl) h
      rw [if_neg c12] at h
      by_cases c13 : tkT E p = ⟨#[40]⟩
      · rw [if_pos c13] at h
        obtain ⟨x, p1, h1, h2⟩ := tbind_ok h
        exact one1 (ih .formula _ _ _ trivial h1) (expectT_ok h2)
      · rw [if_neg c13] at h
        obtain ⟨a, s1, h1, h2⟩ := nbind_ok h
        obtain ⟨ha, _⟩ := name_ok h1
        have ha8 : a < E.F.length := by simpa using ha
        exact one1 (TOk.leaf (n := ⟨3, a, 0, 0, 0, 0⟩) rfl (fld_num hE (e := 0) (by decide) (Or.inl ⟨rfl, rfl, ha8⟩)) rfl) h2
end Go.Proofs.YtenbhalnpiahaaaGreatDoor
/- Layer 6 as plain mathematics: what Parse returns of a text whose tokens are read to a tree. -/
namespace Go.Proofs.YtenbhalnpiahaaaGreatDoor
open Go.RowKit Go.Proofs.Ws Go.Maps
/-- and the other way -/
theorem run_T' {E : PEnv} {n v : Nat} {s : PSt} (h : runP E n .formula ⟨0, []⟩ = some (.ok v s)) : ∃ t, Runs E .formula 0 t s.next ∧ s.nodes = (finT t []).2 := by
  have hi : runP E n .formula ⟨0, []⟩ = img [] (Ws.runT E n .formula 0) := run_img E _ .formula 0 []
  rw [hi] at h
  cases hc : Ws.runT E n .formula 0 with
  | none => rw [hc] at h; cases h
  | some r' =>
    rw [hc] at h
    cases r' with
    | err t e => injection h with h; cases h
    | ok t p =>
      injection h with h
      injection h with _ h2
      subst h2
      exact ⟨t, ⟨n, hc⟩, rfl⟩
end Go.Proofs.YtenbhalnpiahaaaGreatDoor
/- Layer 6 as plain mathematics: what the result of Parse says about the text. -/
namespace Go.Proofs.Ws
open Go
end Go.Proofs.Ws
namespace Go.Proofs.YtenbhalnpiahaaaGreatDoor
open Go.RowKit Go.Proofs.Ws Go.Maps
/-- the parser over tokens ends, with an error that is one or within the tokens -/
theorem run_end (E : PEnv) (hl : E.ws.length ≤ 4000) : ∃ r, runP E (10 * E.ws.length + 7) .formula ⟨0, []⟩ = some r ∧ (∀ t e, r = .err t e → e ≠ 0) ∧ ∀ v s, r = .ok v s → s.next ≤ E.ws.length := by
  obtain ⟨r, hr⟩ := run_some E
  obtain ⟨v, s', h1, h2, h3⟩ := machine_end ⟨E, [], 0⟩ hl
  have h4 := h3 r hr
  refine ⟨r, hr, fun t e h => ?_, fun v s h => ?_⟩
  · subst h; exact h4.1
  · subst h
    rw [← h4.2.2]
    exact h2.1
theorem shortE_of {A F X ws : List ByteArray} (hs : sigErr A F X = 0) : ShortE ⟨A, F, X, ws⟩ := ⟨(sigErr_ok hs).1, (sigErr_ok hs).2.1, (sigErr_ok hs).2.2.1⟩
/-- what was read is the canonical list of a tree -/
theorem parseV_ok {A F X : List ByteArray} {t : ByteArray} (h : (parseV A F X t).err = 0) :
    sigErr A F X = 0 ∧ (tokV t).err = 0 ∧ (parseV A F X t).pos = 0 ∧ ∃ tr, Runs ⟨A, F, X, (tokV t).words⟩ .formula 0 tr (tokV t).words.length ∧ (parseV A F X t).nodes = canT tr ∧ (canT tr).length ≤ 200 ∧ TOk ⟨A, F, X, (tokV t).words⟩ tr := by
  have hs : sigErr A F X = 0 := by
    refine Decidable.byContradiction (fun hn => hn ?_)
    unfold parseV at h
    rw [if_pos hn] at h
    exact h
  have ht : (tokV t).err = 0 := by
    refine Decidable.byContradiction (fun hn => hn ?_)
    unfold parseV at h
    rw [if_neg (by rw [hs]; decide), if_pos hn] at h
    exact h
  refine ⟨hs, ht, ?_⟩
  obtain ⟨b1, b2, _⟩ := tokV_bound t
  obtain ⟨r, hr, he, hle⟩ := run_end ⟨A, F, X, (tokV t).words⟩ b2
  have hV := parseV_fin hs ht hr
  rw [hV] at h ⊢
  cases r with
  | err k e => exact absurd h (he k e rfl)
  | ok v s =>
    unfold finV at h ⊢
    dsimp only at h ⊢
    have hn := hle v s rfl
    by_cases h3 : s.next < (tokV t).words.length
    · rw [if_pos h3] at h; exact absurd h (show ¬ ((4 : Int) = 0) by decide)
    rw [if_neg h3] at h ⊢
    by_cases h4 : 200 < s.nodes.length
    · rw [if_pos h4] at h; exact absurd h (show ¬ ((8 : Int) = 0) by decide)
    rw [if_neg h4]
    obtain ⟨tr, h5, h6⟩ := run_T' hr
    have h7 : s.next = (tokV t).words.length := Nat.le_antisymm hn (Nat.not_lt.1 h3)
    rw [h7] at h5
    refine ⟨rfl, tr, h5, h6, ?_, ?_⟩
    · have : canT tr = s.nodes := h6.symm
      rw [this]; exact Nat.not_lt.1 h4
    · obtain ⟨n, hn⟩ := h5
      exact runT_ok (shortE_of hs) n .formula 0 _ tr trivial hn
end Go.Proofs.YtenbhalnpiahaaaGreatDoor
