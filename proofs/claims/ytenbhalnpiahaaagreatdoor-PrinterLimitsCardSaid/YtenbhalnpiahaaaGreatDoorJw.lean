/- Layer 6: texts joined: Za Zb Zc Zd. -/
import Derived.Test.YtenbhalnpiahaaaGreatDoorJm
import Derived.Test.YtenbhalnpiahaaaGreatDoorJo
/- Layer 7 as plain mathematics: the words of a formula's text, and that the parser reads them (operators between operands, levels, parentheses). -/
namespace Go.Proofs.Ws
open Go
def levN (op : Int) : Nat := if op = 8 then 0 else if op = 7 then 1 else if op = 19 then 2 else if op = 21 then 2 else if op = 6 then 3 else if op = 5 then 4 else 5
def opTr : Tr → Int
  | .leaf n => n.op
  | .un n _ => n.op
  | .bin n _ _ => n.op
def levT (t : Tr) : Nat := levN (opTr t)
/-- the words l stand at p -/
def At (E : PEnv) (p : Nat) (l : List ByteArray) : Prop := l <+: E.ws.drop p
theorem At.app {E : PEnv} {p : Nat} {a b : List ByteArray} (h : At E p (a ++ b)) : At E p a ∧ At E (p + a.length) b := by
  obtain ⟨r, hr⟩ := h
  refine ⟨⟨b ++ r, by rw [← hr, List.append_assoc]⟩, ⟨r, ?_⟩⟩
  rw [← List.drop_drop, ← hr, List.append_assoc, List.drop_left]
theorem At.cons {E : PEnv} {p : Nat} {w : ByteArray} {l : List ByteArray} (h : At E p (w :: l)) : tkT E p = w ∧ At E (p + 1) l := by
  refine ⟨?_, (At.app (a := [w]) h).2⟩
  obtain ⟨r, hr⟩ := h
  unfold tkT
  have : E.ws[p]? = some w := by
    have h2 : (E.ws.drop p)[0]? = some w := by rw [← hr]; rfl
    rw [List.getElem?_drop] at h2
    simpa using h2
  rw [List.getD_eq_getElem?_getD, this]; rfl
theorem At.len {E : PEnv} {p : Nat} {l : List ByteArray} (h : At E p l) : l.length ≤ E.ws.length - p := by
  have := h.length_le
  rwa [List.length_drop] at this
/- what may follow -/
def N1 (w : ByteArray) : Prop := w ≠ ⟨#[38]⟩
def N2 (w : ByteArray) : Prop := N1 w ∧ w ≠ ⟨#[124]⟩
def N3 (w : ByteArray) : Prop := N2 w ∧ w ≠ ⟨#[117, 110, 116, 105, 108]⟩ ∧ w ≠ ⟨#[115, 105, 110, 99, 101]⟩
def N4 (w : ByteArray) : Prop := N3 w ∧ w ≠ ⟨#[45, 62]⟩
/-- from p to q the parser reads t where level r is required -/
def Rd (E : PEnv) (r p q : Nat) (t : Tr) : Prop :=
  match r with
  | 0 => ∀ t' q', N4 (tkT E q) → Runs E (.iffL t) q t' q' → Runs E .formula p t' q'
  | 1 => N4 (tkT E q) → Runs E .implies p t q
  | 2 => N3 (tkT E q) → Runs E .time p t q
  | 3 => ∀ t' q', N1 (tkT E q) → Runs E (.orL t) q t' q' → Runs E .or p t' q'
  | 4 => ∀ t' q', Runs E (.andL t) q t' q' → Runs E .and p t' q'
  | _ => Runs E .pre p t q
theorem Rd.d5 {E : PEnv} {p q : Nat} {t : Tr} (h : Rd E 5 p q t) : Rd E 4 p q t := fun _ _ hl => Runs.and h hl
theorem Rd.d4 {E : PEnv} {p q : Nat} {t : Tr} (h : Rd E 4 p q t) : Rd E 3 p q t := fun _ _ hn hl => Runs.or (h _ _ (Runs.loopEnd hn)) hl
theorem Rd.d3 {E : PEnv} {p q : Nat} {t : Tr} (h : Rd E 3 p q t) : Rd E 2 p q t := fun hn => Runs.time (h _ _ hn.1.1 (Runs.orEnd hn.1.2)) hn.2.1 hn.2.2
theorem Rd.d2 {E : PEnv} {p q : Nat} {t : Tr} (h : Rd E 2 p q t) : Rd E 1 p q t := fun hn => Runs.implies (h hn.1) hn.2
theorem Rd.d1 {E : PEnv} {p q : Nat} {t : Tr} (h : Rd E 1 p q t) : Rd E 0 p q t := fun _ _ hn hl => Runs.formula (h hn) hl
theorem Rd.one {E : PEnv} {p q : Nat} {t : Tr} : ∀ {r : Nat}, r < 5 → Rd E (r + 1) p q t → Rd E r p q t
  | 0, _, h => h.d1
  | 1, _, h => h.d2
  | 2, _, h => h.d3
  | 3, _, h => h.d4
  | 4, _, h => h.d5
  | n + 5, hn, _ => absurd hn (by omega)
theorem Rd.le {E : PEnv} {p q : Nat} {t : Tr} {r r' : Nat} (hr : r ≤ r') (h5 : r' ≤ 5) (h : Rd E r' p q t) : Rd E r p q t := by
  induction hr with
  | refl => exact h
  | step hm ih => exact ih (by omega) (Rd.one (by omega) h)
theorem n4_close : N4 ⟨#[41]⟩ := by unfold N4 N3 N2 N1; decide
theorem Rd.paren {E : PEnv} {p q : Nat} {t : Tr} (h0 : tkT E p = ⟨#[40]⟩) (h : Rd E 0 (p + 1) q t) (h1 : tkT E q = ⟨#[41]⟩) : Rd E 5 p (q + 1) t :=
  Runs.paren h0 (h t q (by rw [h1]; exact n4_close) (Runs.iffEnd (by rw [h1]; decide))) h1
/-- in parentheses where the level is too low -/
def encW (r l : Nat) (ws : List ByteArray) : List ByteArray := if l < r then ⟨#[40]⟩ :: (ws ++ [⟨#[41]⟩]) else ws
theorem levN_le (op : Int) : levN op ≤ 5 := by unfold levN; (repeat' split) <;> decide
theorem Rd.enc {E : PEnv} {r p : Nat} {t : Tr} {ws : List ByteArray} (h5 : r ≤ 5) (ih : ∀ p, At E p ws → Rd E (levT t) p (p + ws.length) t) (h : At E p (encW r (levT t) ws)) : Rd E r p (p + (encW r (levT t) ws).length) t := by
  unfold encW at h ⊢
  by_cases hl : levT t < r
  · rw [if_pos hl] at h ⊢
    obtain ⟨h0, h1⟩ := At.cons h
    obtain ⟨h2, h3⟩ := At.app h1
    obtain ⟨h4, _⟩ := At.cons h3
    have e : p + (⟨#[40]⟩ :: (ws ++ [⟨#[41]⟩]) : List ByteArray).length = p + 1 + ws.length + 1 := by simp; omega
    rw [e]
    exact Rd.le h5 (Nat.le_refl 5) (Rd.paren h0 (Rd.le (Nat.zero_le _) (levN_le _) (ih (p + 1) h2)) h4)
  · rw [if_neg hl] at h ⊢
    exact Rd.le (Nat.not_lt.1 hl) (levN_le _) (ih p h)
/- operators between operands -/
def signW (op : Int) : ByteArray := if op = 5 then ⟨#[38]⟩ else if op = 6 then ⟨#[124]⟩ else if op = 7 then ⟨#[45, 62]⟩ else if op = 8 then ⟨#[60, 45, 62]⟩ else if op = 19 then ⟨#[117, 110, 116, 105, 108]⟩ else ⟨#[115, 105, 110, 99, 101]⟩
def leftN (op : Int) : Nat := if op = 5 then 4 else if op = 6 then 3 else if op = 7 then 2 else if op = 8 then 0 else 3
def rightN (op : Int) : Nat := if op = 5 then 5 else if op = 6 then 4 else if op = 7 then 1 else if op = 8 then 1 else 2
def MidN (op : Int) : Prop := op = 5 ∨ op = 6 ∨ op = 7 ∨ op = 8 ∨ op = 19 ∨ op = 21
theorem Rd.mid {E : PEnv} {op : Int} (hm : MidN op) {p p1 q : Nat} {a b : Tr} (ha : Rd E (leftN op) p p1 a) (hc : tkT E p1 = signW op) (hb : Rd E (rightN op) (p1 + 1) q b) : Rd E (levN op) p q (.bin (nd1 op) a b) := by
  rcases hm with rfl | rfl | rfl | rfl | rfl | rfl
  · exact fun t' q' hl => (show Rd E 4 p p1 a from ha) _ _ (Runs.andMore hc hb hl)
  · exact fun t' q' hn hl => (show Rd E 3 p p1 a from ha) _ _ (by rw [hc]; unfold N1; decide) (Runs.orMore hc ((show Rd E 4 (p1 + 1) q b from hb) _ _ (Runs.loopEnd hn)) hl)
  · exact fun hn => Runs.arrow ((show Rd E 2 p p1 a from ha) (by rw [hc]; unfold N3 N2 N1; decide)) hc ((show Rd E 1 (p1 + 1) q b from hb) hn)
  · exact fun t' q' hn hl => (show Rd E 0 p p1 a from ha) _ _ (by rw [hc]; unfold N4 N3 N2 N1; decide) (Runs.iffMore hc ((show Rd E 1 (p1 + 1) q b from hb) hn) hl)
  · exact fun hn => Runs.until ((show Rd E 3 p p1 a from ha) _ _ (by rw [hc]; unfold N1; decide) (Runs.orEnd (by rw [hc]; decide))) hc ((show Rd E 2 (p1 + 1) q b from hb) hn)
  · exact fun hn => Runs.since ((show Rd E 3 p p1 a from ha) _ _ (by rw [hc]; unfold N1; decide) (Runs.orEnd (by rw [hc]; decide))) hc ((show Rd E 2 (p1 + 1) q b from hb) hn)
end Go.Proofs.Ws
/- Layer 7 as plain mathematics: the words of a formula's text, and that the parser reads them (names, operators before an operand, all together). -/
namespace Go.Proofs.Ws
open Go
theorem nm_at {E : PEnv} {what p i : Nat} {L : List ByteArray} (hL : (if what = 0 then E.F else if what = 1 then E.A else E.X) = L) (hn : L.Nodup) (ho : ∀ x ∈ L, nameOk x = true) (hi : i < L.length) (h : tkT E p = L.getD i ByteArray.empty) :
    nameP E what ⟨p, []⟩ = .ok i ⟨p + 1, []⟩ := by
  have e : tkP E ⟨p, []⟩ = L.getD i ByteArray.empty := h
  have hm : L.getD i ByteArray.empty ∈ L := by rw [List.getD_eq_getElem?_getD, List.getElem?_eq_getElem hi]; exact List.getElem_mem hi
  unfold nameP
  rw [hL, e, idx_at hn hi, if_neg (by rw [ho _ hm]; decide), if_neg (by omega)]
  rfl
theorem expectT_yes {E : PEnv} {w : ByteArray} {p : Nat} {k : Nat → Option TRes} (h : tkT E p = w) : expectT E w p k = k (p + 1) := by unfold expectT; rw [if_pos h]
/- groups of agents -/
def moreW (A : List ByteArray) : List Nat → List ByteArray
  | [] => []
  | j :: js => ⟨#[44]⟩ :: A.getD j ByteArray.empty :: moreW A js
theorem moreW_len (A : List ByteArray) : ∀ js : List Nat, (moreW A js).length = 2 * js.length
  | [] => rfl
  | _ :: js => by simp [moreW, moreW_len A js]; omega
def orF (g j : Nat) : Nat := g ||| 2 ^ j
theorem agents_at {E : PEnv} (hn : E.A.Nodup) (ho : ∀ x ∈ E.A, nameOk x = true) : ∀ (js : List Nat) (g p fuel : Nat), (∀ j ∈ js, j < E.A.length) → js.Nodup → (∀ j ∈ js, g.testBit j = false) → At E p (moreW E.A js) → tkT E (p + (moreW E.A js).length) ≠ ⟨#[44]⟩ → js.length < fuel →
    agentsL E fuel g ⟨p, []⟩ = some (.ok (js.foldl orF g) ⟨p + (moreW E.A js).length, []⟩) := by
  intro js
  induction js with
  | nil =>
    intro g p fuel _ _ _ _ hq hf
    obtain ⟨f, rfl⟩ : ∃ f, fuel = f + 1 := ⟨fuel - 1, by omega⟩
    unfold agentsL
    rw [if_neg (show ¬ tkP E ⟨p, []⟩ = ⟨#[44]⟩ from hq)]
    rfl
  | cons j js ih =>
    intro g p fuel hl hd hb hat hq hf
    obtain ⟨f, rfl⟩ : ∃ f, fuel = f + 1 := ⟨fuel - 1, by omega⟩
    obtain ⟨h0, h1⟩ := At.cons hat
    obtain ⟨h2, h3⟩ := At.cons h1
    have hn1 := nm_at (what := 1) (show _ = E.A from rfl) hn ho (hl j (by simp)) h2
    have hc := List.nodup_cons.1 hd
    have hlen : p + (moreW E.A (j :: js)).length = p + 1 + 1 + (moreW E.A js).length := by simp [moreW]; omega
    unfold agentsL
    rw [if_pos (show tkP E ⟨p, []⟩ = ⟨#[44]⟩ from h0)]
    show obind (some (nameP E 1 ⟨p + 1, []⟩)) _ = _
    rw [hn1]
    show (if g.testBit j = true then _ else agentsL E f (g ||| 2 ^ j) ⟨p + 1 + 1, []⟩) = _
    rw [if_neg (by rw [hb j (by simp)]; decide), hlen]
    rw [hlen] at hq
    exact ih (g ||| 2 ^ j) (p + 1 + 1) f (fun k hk => hl k (by simp [hk])) hc.2 (fun k hk => by
      rw [Nat.testBit_or, hb k (by simp [hk]), Nat.testBit_two_pow, Bool.false_or]
      exact decide_eq_false (fun e => hc.1 (by rw [e]; exact hk))) h3 hq (by simpa using hf)
theorem fold_bit : ∀ (js : List Nat) (g k : Nat), (js.foldl orF g).testBit k = (g.testBit k || decide (k ∈ js))
  | [], g, k => by simp
  | j :: js, g, k => by
    rw [List.foldl_cons, fold_bit js]
    unfold orF
    rw [Nat.testBit_or, Nat.testBit_two_pow]
    by_cases e : j = k
    · subst e; simp
    · have : ¬ k = j := fun h => e h.symm
      simp [e, this]
def grpI (n g : Nat) : List Nat := (List.range n).filter (fun j => g.testBit j)
theorem grpI_mem {n g j : Nat} : j ∈ grpI n g ↔ j < n ∧ g.testBit j = true := by unfold grpI; simp
theorem grpI_nodup (n g : Nat) : (grpI n g).Nodup := List.nodup_range.filter _
theorem grpI_fold {n g : Nat} (hg : g < 2 ^ n) : (grpI n g).foldl orF 0 = g := by
  apply Nat.eq_of_testBit_eq
  intro k
  rw [fold_bit, Nat.zero_testBit, Bool.false_or]
  by_cases hk : k < n
  · cases hb : g.testBit k with
    | true => exact decide_eq_true (grpI_mem.2 ⟨hk, hb⟩)
    | false => exact decide_eq_false (fun h => by rw [(grpI_mem.1 h).2] at hb; cases hb)
  · have : g.testBit k = false := Nat.testBit_lt_two_pow (Nat.lt_of_lt_of_le hg (Nat.pow_le_pow_right (by decide) (by omega)))
    rw [this]
    exact decide_eq_false (fun h => hk (grpI_mem.1 h).1)
theorem grpI_ne {n g : Nat} (h0 : 0 < g) (hg : g < 2 ^ n) : grpI n g ≠ [] := fun e => by
  have := grpI_fold hg
  rw [e] at this
  simp at this
  omega
/-- the names of a group, with commas between -/
def grpW (A : List ByteArray) (g : Nat) : List ByteArray :=
  match grpI A.length g with
  | [] => []
  | j :: js => A.getD j ByteArray.empty :: moreW A js
/-- a group in brackets is read as its number -/
theorem group_at {E : PEnv} (hn : E.A.Nodup) (ho : ∀ x ∈ E.A, nameOk x = true) {g p : Nat} (h0 : 0 < g) (hg : g < 2 ^ E.A.length) (h : At E p (grpW E.A g)) (hq : tkT E (p + (grpW E.A g).length) ≠ ⟨#[44]⟩) (k : Nat → Nat → Option TRes) :
    (nbind (some (nameP E 1 ⟨p, []⟩)) fun a p => nbind (agentsL E (E.ws.length + 1) (2 ^ a) ⟨p, []⟩) k) = k g (p + (grpW E.A g).length) := by
  have hf := grpI_fold hg
  have hd := grpI_nodup E.A.length g
  have hm : ∀ j ∈ grpI E.A.length g, j < E.A.length := fun j hj => (grpI_mem.1 hj).1
  unfold grpW at h hq ⊢
  cases hc : grpI E.A.length g with
  | nil => exact absurd hc (grpI_ne h0 hg)
  | cons j js =>
    rw [hc] at h hq hf hd hm
    dsimp only at h hq ⊢
    obtain ⟨h1, h2⟩ := At.cons h
    have hc2 := List.nodup_cons.1 hd
    have hl : p + (E.A.getD j ByteArray.empty :: moreW E.A js).length = p + 1 + (moreW E.A js).length := by simp; omega
    rw [hl] at hq ⊢
    have hlen := h2.len
    rw [moreW_len] at hlen
    rw [nm_at (what := 1) (show _ = E.A from rfl) hn ho (hm j (by simp)) h1]
    show nbind (agentsL E (E.ws.length + 1) (2 ^ j) ⟨p + 1, []⟩) k = _
    rw [agents_at hn ho js (2 ^ j) (p + 1) _ (fun i hi => hm i (by simp [hi])) hc2.2 (fun i hi => by
      rw [Nat.testBit_two_pow]; exact decide_eq_false (fun e => hc2.1 (by rw [e]; exact hi))) h2 hq (by omega)]
    have e : js.foldl orF (2 ^ j) = g := by rw [← hf, List.foldl_cons]; unfold orF; rw [Nat.zero_or]
    rw [e]
    rfl
/- one operand behind its operator -/
theorem Rd.not {E : PEnv} {p q : Nat} {x : Tr} (hc : tkT E p = ⟨#[126]⟩) (h1 : Rd E 5 (p + 1) q x) : Rd E 5 p q (.un (nd1 4) x) := by
  obtain ⟨n, e1⟩ := h1
  refine ⟨n + 1, ?_⟩
  rw [runT]
  dsimp only
  rw [hc]
  rw [if_pos rfl]
  rw [e1]
  rfl
theorem Rd.next {E : PEnv} {p q : Nat} {x : Tr} (hc : tkT E p = ⟨#[110, 101, 120, 116]⟩) (h1 : Rd E 5 (p + 1) q x) : Rd E 5 p q (.un (nd1 18) x) := by
  obtain ⟨n, e1⟩ := h1
  refine ⟨n + 1, ?_⟩
  rw [runT]
  dsimp only
  rw [hc]
  iterate 1 rw [if_neg (by decide)]
  rw [if_pos rfl]
  rw [e1]
  rfl
theorem Rd.prev {E : PEnv} {p q : Nat} {x : Tr} (hc : tkT E p = ⟨#[112, 114, 101, 118]⟩) (h1 : Rd E 5 (p + 1) q x) : Rd E 5 p q (.un (nd1 20) x) := by
  obtain ⟨n, e1⟩ := h1
  refine ⟨n + 1, ?_⟩
  rw [runT]
  dsimp only
  rw [hc]
  iterate 2 rw [if_neg (by decide)]
  rw [if_pos rfl]
  rw [e1]
  rfl
theorem Rd.every {E : PEnv} (hn : E.A.Nodup) (ho : ∀ x ∈ E.A, nameOk x = true) {p q g : Nat} {x : Tr} (h0 : 0 < g) (hg : g < 2 ^ E.A.length) (hc : tkT E p = ⟨#[69]⟩) (a1 : tkT E (p + 1) = ⟨#[91]⟩) (a2 : At E (p + 1 + 1) (grpW E.A g)) (a3 : tkT E (p + 1 + 1 + (grpW E.A g).length) = ⟨#[93]⟩)
    (h1 : Rd E 5 (p + 1 + 1 + (grpW E.A g).length + 1) q x) : Rd E 5 p q (.un ⟨11, 0, 0, g, 0, 0⟩ x) := by
  obtain ⟨n, e1⟩ := h1
  refine ⟨n + 1, ?_⟩
  rw [runT]
  dsimp only
  rw [hc]
  iterate 7 rw [if_neg (by decide)]
  rw [if_pos rfl]
  rw [expectT_yes a1, group_at hn ho h0 hg a2 (by rw [a3]; decide), expectT_yes a3, e1]
  rfl
theorem Rd.act {E : PEnv} (hn : E.X.Nodup) (ho : ∀ x ∈ E.X, nameOk x = true) {p q i e : Nat} {x : Tr} {w : ByteArray} (hi : i < E.X.length) (hne : E.X.getD i ByteArray.empty ≠ ⟨#[33]⟩) (hw : ∀ p, tkT E p = w → numberP E ⟨p, []⟩ = .ok e ⟨p + 1, []⟩) (hc : tkT E p = ⟨#[91]⟩)
    (ha : At E (p + 1) [E.X.getD i ByteArray.empty, ⟨#[46]⟩, w, ⟨#[93]⟩]) (h1 : Rd E 5 (p + 1 + 1 + 1 + 1 + 1) q x) : Rd E 5 p q (.un ⟨17, i, e, 0, 0, 0⟩ x) := by
  obtain ⟨n, e1⟩ := h1
  obtain ⟨a1, ha⟩ := At.cons ha
  obtain ⟨a2, ha⟩ := At.cons ha
  obtain ⟨a3, ha⟩ := At.cons ha
  obtain ⟨a4, _⟩ := At.cons ha
  refine ⟨n + 1, ?_⟩
  rw [runT]
  dsimp only
  rw [hc]
  iterate 10 rw [if_neg (by decide)]
  rw [if_pos rfl]
  rw [if_neg (by rw [a1]; exact hne), nm_at (what := 2) (show _ = E.X from rfl) hn ho hi a1]
  dsimp only [nbind, tbind, PSt.adv]
  rw [expectT_yes a2, hw _ a3]
  dsimp only [nbind, tbind, PSt.adv]
  rw [expectT_yes a4, e1]
theorem Rd.announce {E : PEnv} {p p1 q : Nat} {c x : Tr} (hc : tkT E p = ⟨#[91]⟩) (a1 : tkT E (p + 1) = ⟨#[33]⟩) (h0 : Rd E 0 (p + 1 + 1) p1 c) (a2 : tkT E p1 = ⟨#[93]⟩) (h1 : Rd E 5 (p1 + 1) q x) : Rd E 5 p q (.bin (nd1 16) c x) := by
  obtain ⟨n, e0, e1⟩ := Runs.two (h0 c p1 (by rw [a2]; unfold N4 N3 N2 N1; decide) (Runs.iffEnd (by rw [a2]; decide))) h1
  refine ⟨n + 1, ?_⟩
  rw [runT]
  dsimp only
  rw [hc]
  iterate 10 rw [if_neg (by decide)]
  rw [if_pos rfl]
  rw [if_pos a1, e0]
  dsimp only [nbind, tbind]
  rw [expectT_yes a2, e1]
/-- a condition in brackets: left out, or behind a bar -/
def Cond (E : PEnv) (p p1 : Nat) (c : Tr) : Prop := (c = .leaf (nd1 1) ∧ p1 = p) ∨ (tkT E p = ⟨#[124]⟩ ∧ Rd E 0 (p + 1) p1 c)
theorem Cond.runs {E : PEnv} {p p1 : Nat} {c : Tr} (h : Cond E p p1 c) (a : tkT E p1 = ⟨#[93]⟩) : ∃ n, ∀ m, n ≤ m → ∀ k : Tr → Nat → Option TRes, (if tkT E p = ⟨#[124]⟩ then tbind (runT E m .formula (p + 1)) k else k (.leaf (nd1 1)) p) = k c p1 := by
  rcases h with ⟨rfl, rfl⟩ | ⟨h0, h1⟩
  · exact ⟨0, fun m _ k => by rw [if_neg (by rw [a]; decide)]⟩
  · obtain ⟨n, e⟩ := h1 c p1 (by rw [a]; unfold N4 N3 N2 N1; decide) (Runs.iffEnd (by rw [a]; decide))
    exact ⟨n, fun m hm k => by rw [if_pos h0, runT_fuel E hm _ _ _ e]; rfl⟩
theorem Rd.belief {E : PEnv} (hn : E.A.Nodup) (ho : ∀ x ∈ E.A, nameOk x = true) {p p1 q i : Nat} {c x : Tr} (hi : i < E.A.length) (hc : tkT E p = ⟨#[66]⟩) (ha : At E (p + 1) [⟨#[91]⟩, E.A.getD i ByteArray.empty]) (hb : Cond E (p + 1 + 1 + 1) p1 c) (a3 : tkT E p1 = ⟨#[93]⟩) (h1 : Rd E 5 (p1 + 1) q x) :
    Rd E 5 p q (.bin ⟨14, i, 0, 0, 0, 0⟩ c x) := by
  obtain ⟨m, e1⟩ := h1
  obtain ⟨n, e0⟩ := hb.runs a3
  obtain ⟨a1, ha⟩ := At.cons ha
  obtain ⟨a2, _⟩ := At.cons ha
  refine ⟨n + m + 1, ?_⟩
  rw [runT]
  dsimp only
  rw [hc]
  iterate 6 rw [if_neg (by decide)]
  rw [if_pos rfl]
  rw [expectT_yes a1, nm_at (what := 1) (show _ = E.A from rfl) hn ho hi a2]
  show (if tkT E (p + 1 + 1 + 1) = ⟨#[124]⟩ then tbind (runT E (n + m) .formula (p + 1 + 1 + 1 + 1)) _ else _) = _
  rw [e0 (n + m) (Nat.le_add_right _ _), expectT_yes a3, runT_fuel E (Nat.le_add_left m n) _ _ _ e1]
  rfl
theorem Rd.common {E : PEnv} (hn : E.A.Nodup) (ho : ∀ x ∈ E.A, nameOk x = true) {p p1 q g : Nat} {c x : Tr} (h0 : 0 < g) (hg : g < 2 ^ E.A.length) (hc : tkT E p = ⟨#[67]⟩) (a1 : tkT E (p + 1) = ⟨#[91]⟩) (a2 : At E (p + 1 + 1) (grpW E.A g)) (hb : Cond E (p + 1 + 1 + (grpW E.A g).length) p1 c) (a3 : tkT E p1 = ⟨#[93]⟩) (h1 : Rd E 5 (p1 + 1) q x) :
    Rd E 5 p q (.bin ⟨13, 0, 0, g, 0, 0⟩ c x) := by
  obtain ⟨m, e1⟩ := h1
  obtain ⟨n, e0⟩ := hb.runs a3
  have hq : tkT E (p + 1 + 1 + (grpW E.A g).length) ≠ ⟨#[44]⟩ := by
    rcases hb with ⟨_, rfl⟩ | ⟨hb, _⟩
    · rw [a3]; decide
    · rw [hb]; decide
  refine ⟨n + m + 1, ?_⟩
  rw [runT]
  dsimp only
  rw [hc]
  iterate 9 rw [if_neg (by decide)]
  rw [if_pos rfl]
  rw [expectT_yes a1, group_at hn ho h0 hg a2 hq]
  show (if tkT E (p + 1 + 1 + (grpW E.A g).length) = ⟨#[124]⟩ then tbind (runT E (n + m) .formula (p + 1 + 1 + (grpW E.A g).length + 1)) _ else _) = _
  rw [e0 (n + m) (Nat.le_add_right _ _), expectT_yes a3, runT_fuel E (Nat.le_add_left m n) _ _ _ e1]
  rfl
theorem Rd.tt {E : PEnv} {p : Nat} (hc : tkT E p = ⟨#[116, 114, 117, 101]⟩) : Rd E 5 p (p + 1) (.leaf (nd1 1)) := by
  refine ⟨1, ?_⟩
  rw [runT]
  dsimp only
  rw [hc]
  iterate 11 rw [if_neg (by decide)]
  rw [if_pos rfl]
theorem Rd.ff {E : PEnv} {p : Nat} (hc : tkT E p = ⟨#[102, 97, 108, 115, 101]⟩) : Rd E 5 p (p + 1) (.leaf (nd1 2)) := by
  refine ⟨1, ?_⟩
  rw [runT]
  dsimp only
  rw [hc]
  iterate 12 rw [if_neg (by decide)]
  rw [if_pos rfl]
theorem Rd.fact {E : PEnv} (hn : E.F.Nodup) (ho : ∀ x ∈ E.F, nameOk x = true) {p i : Nat} (hi : i < E.F.length) (hc : tkT E p = E.F.getD i ByteArray.empty) : Rd E 5 p (p + 1) (.leaf ⟨3, i, 0, 0, 0, 0⟩) := by
  have hm : E.F.getD i ByteArray.empty ∈ E.F := by rw [List.getD_eq_getElem?_getD, List.getElem?_eq_getElem hi]; exact List.getElem_mem hi
  have hk := ho _ hm
  have hw : ∀ w, nameOk w = false → tkT E p ≠ w := fun w h e => by rw [← e, hc, hk] at h; cases h
  refine ⟨1, ?_⟩
  rw [runT]
  dsimp only
  rw [if_neg (hw ⟨#[126]⟩ (by decide))]
  rw [if_neg (hw ⟨#[110, 101, 120, 116]⟩ (by decide))]
  rw [if_neg (hw ⟨#[112, 114, 101, 118]⟩ (by decide))]
  rw [if_neg (hw ⟨#[75]⟩ (by decide))]
  rw [if_neg (hw ⟨#[77]⟩ (by decide))]
  rw [if_neg (hw ⟨#[83]⟩ (by decide))]
  rw [if_neg (hw ⟨#[66]⟩ (by decide))]
  rw [if_neg (hw ⟨#[69]⟩ (by decide))]
  rw [if_neg (hw ⟨#[68]⟩ (by decide))]
  rw [if_neg (hw ⟨#[67]⟩ (by decide))]
  rw [if_neg (hw ⟨#[91]⟩ (by decide))]
  rw [if_neg (hw ⟨#[116, 114, 117, 101]⟩ (by decide))]
  rw [if_neg (hw ⟨#[102, 97, 108, 115, 101]⟩ (by decide))]
  rw [if_neg (hw ⟨#[40]⟩ (by decide))]
  rw [nm_at (what := 0) (show _ = E.F from rfl) hn ho hi hc]
  rfl
end Go.Proofs.Ws
/- Layer 7 as plain mathematics: the words of a formula are read as the formula. -/
namespace Go.Proofs.Ws
open Go
def digW (e : Nat) : ByteArray := ⟨#[UInt8.ofNat (48 + e)]⟩
/-- a formula whose agents, facts and action models have names -/
inductive PrT (na nf nx : Nat) : Tr → Prop
  | tt : PrT na nf nx (.leaf (nd1 1))
  | ff : PrT na nf nx (.leaf (nd1 2))
  | fact {i : Nat} (hi : i < nf) : PrT na nf nx (.leaf ⟨3, i, 0, 0, 0, 0⟩)
  | plain {op : Int} {a : Tr} (h : op = 4 ∨ op = 18 ∨ op = 20) (ha : PrT na nf nx a) : PrT na nf nx (.un (nd1 op) a)
  | agent {op : Int} {i : Nat} {a : Tr} (h : op = 9 ∨ op = 10 ∨ op = 15) (hi : i < na) (ha : PrT na nf nx a) : PrT na nf nx (.un ⟨op, i, 0, 0, 0, 0⟩ a)
  | group {op : Int} {g : Nat} {a : Tr} (h : op = 11 ∨ op = 12) (h0 : 0 < g) (hg : g < 2 ^ na) (ha : PrT na nf nx a) : PrT na nf nx (.un ⟨op, 0, 0, g, 0, 0⟩ a)
  | act {i e : Nat} {a : Tr} (hi : i < nx) (he : e < 8) (ha : PrT na nf nx a) : PrT na nf nx (.un ⟨17, i, e, 0, 0, 0⟩ a)
  | mid {op : Int} {a b : Tr} (h : MidN op) (ha : PrT na nf nx a) (hb : PrT na nf nx b) : PrT na nf nx (.bin (nd1 op) a b)
  | announce {a b : Tr} (ha : PrT na nf nx a) (hb : PrT na nf nx b) : PrT na nf nx (.bin (nd1 16) a b)
  | belief {i : Nat} {a b : Tr} (hi : i < na) (ha : PrT na nf nx a) (hb : PrT na nf nx b) : PrT na nf nx (.bin ⟨14, i, 0, 0, 0, 0⟩ a b)
  | common {g : Nat} {a b : Tr} (h0 : 0 < g) (hg : g < 2 ^ na) (ha : PrT na nf nx a) (hb : PrT na nf nx b) : PrT na nf nx (.bin ⟨13, 0, 0, g, 0, 0⟩ a b)
def condW (op : Int) (ws : List ByteArray) : List ByteArray := if op = 1 then [] else ⟨#[124]⟩ :: ws
structure Nms (E : PEnv) : Prop where
  an : E.A.Nodup
  ao : ∀ x ∈ E.A, nameOk x = true
  fn : E.F.Nodup
  fo : ∀ x ∈ E.F, nameOk x = true
  xn : E.X.Nodup
  xo : ∀ x ∈ E.X, nameOk x = true
theorem PrT.one {na nf nx : Nat} {a : Tr} (h : PrT na nf nx a) (h1 : opTr a = 1) : a = .leaf (nd1 1) := by
  cases h with
  | tt => rfl
  | ff => exact absurd h1 (by simp [opTr, nd1])
  | fact hi => exact absurd h1 (by simp [opTr])
  | plain h ha => rcases h with rfl | rfl | rfl <;> exact absurd h1 (by simp [opTr, nd1])
  | agent h hi ha => rcases h with rfl | rfl | rfl <;> exact absurd h1 (by simp [opTr])
  | group h h0 hg ha => rcases h with rfl | rfl <;> exact absurd h1 (by simp [opTr])
  | act hi he ha => exact absurd h1 (by simp [opTr])
  | mid h ha hb => rcases h with rfl | rfl | rfl | rfl | rfl | rfl <;> exact absurd h1 (by simp [opTr, nd1])
  | announce ha hb => exact absurd h1 (by simp [opTr, nd1])
  | belief hi ha hb => exact absurd h1 (by simp [opTr])
  | common h0 hg ha hb => exact absurd h1 (by simp [opTr])
theorem Cond.of {E : PEnv} {na nf nx : Nat} {a : Tr} {p : Nat} {ws : List ByteArray} (h : PrT na nf nx a) (ih : ∀ p, At E p ws → Rd E (levT a) p (p + ws.length) a) (hat : At E p (condW (opTr a) ws)) : Cond E p (p + (condW (opTr a) ws).length) a := by
  unfold condW at hat ⊢
  by_cases h1 : opTr a = 1
  · rw [if_pos h1]
    exact .inl ⟨h.one h1, rfl⟩
  · rw [if_neg h1] at hat ⊢
    obtain ⟨h2, h3⟩ := At.cons hat
    refine .inr ⟨h2, ?_⟩
    have := Rd.le (Nat.zero_le _) (levN_le _) (ih (p + 1) h3)
    rw [show p + (⟨#[124]⟩ :: ws : List ByteArray).length = p + 1 + ws.length by simp; omega]
    exact this
end Go.Proofs.Ws
/- Layer 7 as plain mathematics: the bytes of a formula's text; its tokens are the formula's words. -/
namespace Go.Proofs.Ws
open Go
theorem low_let (m : Nat) (h : lowN m = true) : letN m = true := by
  unfold lowN at h; unfold letN; rw [h]; rfl
theorem ch_word (m : Nat) (h : chN m = true) : wordN m = true := by
  unfold chN at h
  unfold wordN
  simp only [Bool.or_eq_true, decide_eq_true_eq] at h ⊢
  rcases h with (h | h) | h
  · exact .inl (low_let m h)
  · exact .inr h
  · exact .inl (by subst h; decide)
theorem scan_all (p : Nat → Bool) : ∀ l : List UInt8, (∀ c ∈ l, p c.toNat = true) → scanL p l = l.length
  | [], _ => rfl
  | c :: l, h => by
    show (if p c.toNat = true then scanL p l + 1 else 0) = _
    rw [if_pos (h c (by simp)), scan_all p l (fun d hd => h d (by simp [hd]))]
    rfl
theorem let_space (m : Nat) (h : letN m = true) : spaceN m = false := by
  unfold letN at h
  unfold spaceN
  simp only [Bool.or_eq_true, Bool.and_eq_true, decide_eq_true_eq] at h
  simp only [Bool.or_eq_false_iff, decide_eq_false_iff_not]
  omega
theorem name_tok {x : ByteArray} (h : nameV x = true) : IsTok x.data.toList ∧ letN (headN x) = true ∧ x.size ≠ 0 := by
  unfold nameV nameL at h
  unfold headN
  have hs : x.size = x.data.toList.length := rfl
  rw [hs]
  generalize x.data.toList = l at *
  simp only [Bool.and_eq_true, decide_eq_true_eq] at h
  obtain ⟨⟨⟨h1, _⟩, h3⟩, h4⟩ := h
  match l, h1, h3, h4 with
  | c :: r, _, h3, h4 =>
    have hl : letN c.toNat = true := low_let _ h3
    refine ⟨⟨c, r, rfl, let_space _ hl, ?_⟩, hl, by simp⟩
    show (if letN c.toNat = true then scanL wordN (c :: r) else _) = _
    rw [if_pos hl]
    exact scan_all wordN (c :: r) (fun d hd => ch_word _ (List.all_eq_true.1 h4 d hd))
theorem name_ok {x : ByteArray} (h : nameV x = true) (hr : resV x = false) : nameOk x = true := by
  obtain ⟨_, h2, h3⟩ := name_tok h
  have hs : Lib.containsS specL x = false := by
    cases hb : Lib.containsS specL x with
    | false => rfl
    | true =>
      have hm := (Lib.containsS_iff _ _).1 hb
      simp only [specL, List.mem_cons, List.not_mem_nil, or_false] at hm
      rcases hm with rfl | rfl | rfl | rfl | rfl | rfl | rfl | rfl | rfl | rfl | rfl | rfl | rfl
      · exact absurd hr (by decide)
      · exact absurd hr (by decide)
      · exact absurd hr (by decide)
      · exact absurd hr (by decide)
      · exact absurd hr (by decide)
      · exact absurd hr (by decide)
      · exact absurd h (by decide)
      · exact absurd h (by decide)
      · exact absurd h (by decide)
      · exact absurd h (by decide)
      · exact absurd h (by decide)
      · exact absurd h (by decide)
      · exact absurd h (by decide)
  unfold nameOk
  rw [decide_eq_true h3, h2, hs]
  rfl
theorem Nms.of_sig {A F X ws : List ByteArray} (h : sigErr A F X = 0) : Nms ⟨A, F, X, ws⟩ := by
  obtain ⟨_, _, _, h4, h5⟩ := sigErr_ok h
  obtain ⟨n1, n2, _⟩ := List.nodup_append.1 h5
  obtain ⟨n3, n4, _⟩ := List.nodup_append.1 n2
  exact ⟨n1, fun x hx => name_ok (h4 x (by simp [hx])).1 (h4 x (by simp [hx])).2, n3, fun x hx => name_ok (h4 x (by simp [hx])).1 (h4 x (by simp [hx])).2, n4, fun x hx => name_ok (h4 x (by simp [hx])).1 (h4 x (by simp [hx])).2⟩
/-- all names of three lists are tokens -/
structure NmT (A F X : List ByteArray) : Prop where
  a : ∀ i, i < A.length → IsTok (A.getD i ByteArray.empty).data.toList
  f : ∀ i, i < F.length → IsTok (F.getD i ByteArray.empty).data.toList
  x : ∀ i, i < X.length → IsTok (X.getD i ByteArray.empty).data.toList
theorem NmT.of_sig {A F X : List ByteArray} (h : sigErr A F X = 0) : NmT A F X := by
  obtain ⟨_, _, _, h4, _⟩ := sigErr_ok h
  have hm : ∀ (l : List ByteArray) i, i < l.length → l.getD i ByteArray.empty ∈ l := fun l i hi => by rw [List.getD_eq_getElem?_getD, List.getElem?_eq_getElem hi]; exact List.getElem_mem hi
  exact ⟨fun i hi => (name_tok (h4 _ (List.mem_append_left _ (hm A i hi))).1).1, fun i hi => (name_tok (h4 _ (List.mem_append_right _ (List.mem_append_left _ (hm F i hi)))).1).1, fun i hi => (name_tok (h4 _ (List.mem_append_right _ (List.mem_append_right _ (hm X i hi)))).1).1⟩
def encB (r l : Nat) (t : List UInt8) : List UInt8 := if l < r then 40 :: (t ++ [41]) else t
def moreB (A : List ByteArray) : List Nat → List UInt8
  | [] => []
  | j :: js => 44 :: ((A.getD j ByteArray.empty).data.toList ++ moreB A js)
def grpB (A : List ByteArray) (g : Nat) : List UInt8 :=
  match grpI A.length g with
  | [] => []
  | j :: js => (A.getD j ByteArray.empty).data.toList ++ moreB A js
def headB (A X : List ByteArray) (n : Nd) : List UInt8 :=
  if n.op = 4 then [126] else if n.op = 18 then [110, 101, 120, 116, 32] else if n.op = 20 then [112, 114, 101, 118, 32]
  else if n.op = 9 then 75 :: 91 :: ((A.getD n.i.toNat ByteArray.empty).data.toList ++ [93]) else if n.op = 10 then 77 :: 91 :: ((A.getD n.i.toNat ByteArray.empty).data.toList ++ [93]) else if n.op = 15 then 83 :: 91 :: ((A.getD n.i.toNat ByteArray.empty).data.toList ++ [93])
  else if n.op = 11 then 69 :: 91 :: (grpB A n.g.toNat ++ [93]) else if n.op = 12 then 68 :: 91 :: (grpB A n.g.toNat ++ [93])
  else 91 :: ((X.getD n.i.toNat ByteArray.empty).data.toList ++ 46 :: ((digW n.e.toNat).data.toList ++ [93]))
def condB (op : Int) (t : List UInt8) : List UInt8 := if op = 1 then [] else 124 :: t
/-- the text of a formula -/
def textP (A F X : List ByteArray) : Tr → List UInt8
  | .leaf n => if n.op = 1 then [116, 114, 117, 101] else if n.op = 2 then [102, 97, 108, 115, 101] else (F.getD n.i.toNat ByteArray.empty).data.toList
  | .un n a => headB A X n ++ encB 5 (levT a) (textP A F X a)
  | .bin n a b =>
    if n.op = 16 then 91 :: 33 :: (textP A F X a ++ 93 :: encB 5 (levT b) (textP A F X b))
    else if n.op = 14 then 66 :: 91 :: ((A.getD n.i.toNat ByteArray.empty).data.toList ++ (condB (opTr a) (textP A F X a) ++ 93 :: encB 5 (levT b) (textP A F X b)))
    else if n.op = 13 then 67 :: 91 :: (grpB A n.g.toNat ++ (condB (opTr a) (textP A F X a) ++ 93 :: encB 5 (levT b) (textP A F X b)))
    else encB (leftN n.op) (levT a) (textP A F X a) ++ 32 :: ((signW n.op).data.toList ++ 32 :: encB (rightN n.op) (levT b) (textP A F X b))
theorem textP_un (A F X : List ByteArray) (n : Nd) (a : Tr) : textP A F X (.un n a) = headB A X n ++ encB 5 (levT a) (textP A F X a) := rfl
theorem textP_bin (A F X : List ByteArray) (n : Nd) (a b : Tr) : textP A F X (.bin n a b) =
    if n.op = 16 then 91 :: 33 :: (textP A F X a ++ 93 :: encB 5 (levT b) (textP A F X b))
    else if n.op = 14 then 66 :: 91 :: ((A.getD n.i.toNat ByteArray.empty).data.toList ++ (condB (opTr a) (textP A F X a) ++ 93 :: encB 5 (levT b) (textP A F X b)))
    else if n.op = 13 then 67 :: 91 :: (grpB A n.g.toNat ++ (condB (opTr a) (textP A F X a) ++ 93 :: encB 5 (levT b) (textP A F X b)))
    else encB (leftN n.op) (levT a) (textP A F X a) ++ 32 :: ((signW n.op).data.toList ++ 32 :: encB (rightN n.op) (levT b) (textP A F X b)) := rfl
theorem toks (x : ByteArray) : (⟨x.data.toList.toArray⟩ : ByteArray) = x := by simp
/-- a name or a sign, and what follows -/
theorem TokW.nm {x : ByteArray} {b : List UInt8} {v : List ByteArray} (h : IsTok x.data.toList) (hb : Brk b) (h2 : TokW b v) : TokW (x.data.toList ++ b) (x :: v) := by
  have := TokW.word h hb h2
  rwa [toks] at this
theorem TokW.cap {c : UInt8} {b : List UInt8} {v : List ByteArray} (h : IsTok [c]) (h2 : TokW (91 :: b) v) : TokW (c :: 91 :: b) (⟨#[c]⟩ :: v) := TokW.word (w := [c]) h (brk_mark (by decide)) h2
theorem TokW.enc {r l : Nat} {t : List UInt8} {ws : List ByteArray} (h : TokW t ws) : TokW (encB r l t) (encW r l ws) := by
  unfold encB encW
  by_cases hl : l < r
  · rw [if_pos hl, if_pos hl]
    exact TokW.mark (c := 40) (by decide) (TokW.app h (brk_mark (by decide)) (TokW.mark (c := 41) (by decide) TokW.nil))
  · rw [if_neg hl, if_neg hl]; exact h
end Go.Proofs.Ws
