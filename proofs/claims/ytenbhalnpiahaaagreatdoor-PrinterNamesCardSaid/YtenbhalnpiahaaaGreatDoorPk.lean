/- Layer 6: texts joined: Zm Zn Zo. -/
import Derived.Test.YtenbhalnpiahaaaGreatDoorJy
/- Layer 7 as plain mathematics: the facts whose names stand in a formula's text are those of the formula. -/
namespace Go.Proofs.YtenbhalnpiahaaaGreatDoor
open Go.RowKit Go.Proofs.Ws Go.Maps
theorem more_mem (A : List ByteArray) : ∀ js : List Nat, (∀ j ∈ js, j < A.length) → ∀ w ∈ moreW A js, w = ⟨#[44]⟩ ∨ w ∈ A
  | [], _, w, h => by simp [moreW] at h
  | j :: js, hj, w, h => by
    have hm : A.getD j ByteArray.empty ∈ A := by rw [List.getD_eq_getElem?_getD, List.getElem?_eq_getElem (hj j (by simp))]; exact List.getElem_mem _
    rcases List.mem_cons.1 (show w ∈ ⟨#[44]⟩ :: A.getD j ByteArray.empty :: moreW A js from h) with rfl | h
    · exact .inl rfl
    · rcases List.mem_cons.1 h with rfl | h
      · exact .inr hm
      · exact more_mem A js (fun k hk => hj k (by simp [hk])) w h
theorem grp_mem (A : List ByteArray) (g : Nat) : ∀ w ∈ grpW A g, w = ⟨#[44]⟩ ∨ w ∈ A := by
  have hm : ∀ j ∈ grpI A.length g, j < A.length := fun j hj => (grpI_mem.1 hj).1
  unfold grpW
  cases hc : grpI A.length g with
  | nil => intro w h; simp at h
  | cons j js =>
    rw [hc] at hm
    intro w h
    have hj : A.getD j ByteArray.empty ∈ A := by rw [List.getD_eq_getElem?_getD, List.getElem?_eq_getElem (hm j (by simp))]; exact List.getElem_mem _
    rcases List.mem_cons.1 (show w ∈ A.getD j ByteArray.empty :: moreW A js from h) with rfl | h
    · exact .inr hj
    · exact more_mem A js (fun k hk => hm k (by simp [hk])) w h
theorem enc_mem {r l : Nat} {ws : List ByteArray} {w : ByteArray} (hw : nameOk w = true) : w ∈ encW r l ws ↔ w ∈ ws := by
  have hl : ∀ x, nameOk x = false → w ≠ x := fun x h e => by rw [← e, hw] at h; cases h
  unfold encW
  split
  · simp only [List.mem_cons, List.mem_append, List.not_mem_nil, or_false]
    exact ⟨fun h => by rcases h with h | h | h; exact absurd h (hl _ (by decide)); exact h; exact absurd h (hl _ (by decide)), fun h => .inr (.inl h)⟩
  · exact Iff.rfl
theorem dig_no {e : Nat} (he : e < 8) : nameOk (digW e) = false := by
  match e, he with
  | 0, _ => decide
  | 1, _ => decide
  | 2, _ => decide
  | 3, _ => decide
  | 4, _ => decide
  | 5, _ => decide
  | 6, _ => decide
  | 7, _ => decide
/-- a name that is no agent's and no action model's stands in a formula's text exactly if it is a fact's of the formula -/
theorem fact_mem {A F X : List ByteArray} {w : ByteArray} (hw : nameOk w = true) (hA : w ∉ A) (hX : w ∉ X) {t : Tr} (h : PrT A.length F.length X.length t) :
    w ∈ prW A F X t ↔ ∃ i : Nat, i < F.length ∧ F.getD i ByteArray.empty = w ∧ subT (.leaf ⟨3, i, 0, 0, 0, 0⟩) t := by
  have hl : ∀ x, nameOk x = false → w ≠ x := fun x h e => by rw [← e, hw] at h; cases h
  have mem : ∀ {l : List ByteArray} {i : Nat}, i < l.length → l.getD i ByteArray.empty ∈ l := fun hi => by rw [List.getD_eq_getElem?_getD, List.getElem?_eq_getElem hi]; exact List.getElem_mem hi
  have nA : ∀ {i : Nat}, i < A.length → w ≠ A.getD i ByteArray.empty := fun hi e => hA (e ▸ mem hi)
  have nX : ∀ {i : Nat}, i < X.length → w ≠ X.getD i ByteArray.empty := fun hi e => hX (e ▸ mem hi)
  have nG : ∀ g, w ∉ grpW A g := fun g hm => by
    rcases grp_mem A g w hm with h | h
    · exact hl _ (by decide) h
    · exact hA h
  have un : ∀ {n : Nd} {a : Tr}, w ∉ headW A X n → (w ∈ prW A F X a ↔ ∃ i : Nat, i < F.length ∧ F.getD i ByteArray.empty = w ∧ subT (.leaf ⟨3, i, 0, 0, 0, 0⟩) a) → (w ∈ prW A F X (.un n a) ↔ ∃ i : Nat, i < F.length ∧ F.getD i ByteArray.empty = w ∧ subT (.leaf ⟨3, i, 0, 0, 0, 0⟩) (.un n a)) := by
    intro n a hh ih
    rw [prW_un, List.mem_append, enc_mem hw, ih]
    exact ⟨fun h => by rcases h with h | ⟨i, h1, h2, h3⟩; exact absurd h hh; exact ⟨i, h1, h2, .inr h3⟩, fun ⟨i, h1, h2, h3⟩ => .inr ⟨i, h1, h2, by rcases h3 with h3 | h3; cases h3; exact h3⟩⟩
  have bin : ∀ {n : Nd} {a b : Tr} {ws : List ByteArray}, prW A F X (.bin n a b) = ws → (w ∈ ws ↔ w ∈ prW A F X a ∨ w ∈ prW A F X b) → (w ∈ prW A F X a ↔ ∃ i : Nat, i < F.length ∧ F.getD i ByteArray.empty = w ∧ subT (.leaf ⟨3, i, 0, 0, 0, 0⟩) a) → (w ∈ prW A F X b ↔ ∃ i : Nat, i < F.length ∧ F.getD i ByteArray.empty = w ∧ subT (.leaf ⟨3, i, 0, 0, 0, 0⟩) b) →
      (w ∈ prW A F X (.bin n a b) ↔ ∃ i : Nat, i < F.length ∧ F.getD i ByteArray.empty = w ∧ subT (.leaf ⟨3, i, 0, 0, 0, 0⟩) (.bin n a b)) := by
    intro n a b ws e hm iha ihb
    rw [e, hm, iha, ihb]
    exact ⟨fun h => by rcases h with ⟨i, h1, h2, h3⟩ | ⟨i, h1, h2, h3⟩; exact ⟨i, h1, h2, .inr (.inl h3)⟩; exact ⟨i, h1, h2, .inr (.inr h3)⟩,
      fun ⟨i, h1, h2, h3⟩ => by rcases h3 with h3 | h3 | h3; cases h3; exact .inl ⟨i, h1, h2, h3⟩; exact .inr ⟨i, h1, h2, h3⟩⟩
  have cond : ∀ {a : Tr}, PrT A.length F.length X.length a → (w ∈ condW (opTr a) (prW A F X a) ↔ w ∈ prW A F X a) := by
    intro a ha
    unfold condW
    by_cases h1 : opTr a = 1
    · rw [if_pos h1, ha.one h1]
      exact ⟨fun h => by simp at h, fun h => absurd (List.mem_singleton.1 (show w ∈ [⟨#[116, 114, 117, 101]⟩] from h)) (hl _ (by decide))⟩
    · rw [if_neg h1, List.mem_cons]
      exact ⟨fun h => by rcases h with h | h; exact absurd h (hl _ (by decide)); exact h, .inr⟩
  have no1 : ∀ {x : ByteArray} {l : List ByteArray} {P : Prop}, w ≠ x → (w ∈ l ↔ P) → (w ∈ x :: l ↔ P) := fun {x l P} hx hp => by rw [List.mem_cons]; exact ⟨fun h => by rcases h with h | h; exact absurd h hx; exact hp.1 h, fun h => .inr (hp.2 h)⟩
  induction h with
  | tt => exact ⟨fun h => absurd (List.mem_singleton.1 (show w ∈ [⟨#[116, 114, 117, 101]⟩] from h)) (hl _ (by decide)), fun ⟨i, _, _, h3⟩ => by cases h3⟩
  | ff => exact ⟨fun h => absurd (List.mem_singleton.1 (show w ∈ [⟨#[102, 97, 108, 115, 101]⟩] from h)) (hl _ (by decide)), fun ⟨i, _, _, h3⟩ => by cases h3⟩
  | @fact i hi =>
    refine ⟨fun h => ⟨i, hi, (List.mem_singleton.1 h).symm, rfl⟩, fun ⟨j, h1, h2, h3⟩ => ?_⟩
    have h4 : (Tr.leaf ⟨3, (j : Int), 0, 0, 0, 0⟩) = .leaf ⟨3, (i : Int), 0, 0, 0, 0⟩ := h3
    injection h4 with h4
    injection h4 with _ h4
    have : j = i := by omega
    subst this
    exact List.mem_singleton.2 h2.symm
  | @plain op a h ha ih =>
    refine un ?_ ih
    rcases h with rfl | rfl | rfl <;> exact fun h => absurd (List.mem_singleton.1 h) (hl _ (by decide))
  | @agent op i a h hi ha ih =>
    refine un ?_ ih
    have key : ∀ c : ByteArray, nameOk c = false → w ∉ [c, ⟨#[91]⟩, A.getD i ByteArray.empty, ⟨#[93]⟩] := fun c hc hm => by
      simp only [List.mem_cons, List.not_mem_nil, or_false] at hm
      rcases hm with h | h | h | h
      · exact hl _ hc h
      · exact hl _ (by decide) h
      · exact nA hi h
      · exact hl _ (by decide) h
    rcases h with rfl | rfl | rfl
    · exact key ⟨#[75]⟩ (by decide)
    · exact key ⟨#[77]⟩ (by decide)
    · exact key ⟨#[83]⟩ (by decide)
  | @group op g a h h0 hg ha ih =>
    refine un ?_ ih
    have key : ∀ c : ByteArray, nameOk c = false → w ∉ c :: ⟨#[91]⟩ :: (grpW A g ++ [⟨#[93]⟩]) := fun c hc hm => by
      simp only [List.mem_cons, List.mem_append, List.not_mem_nil, or_false] at hm
      rcases hm with h | h | h | h
      · exact hl _ hc h
      · exact hl _ (by decide) h
      · exact nG g h
      · exact hl _ (by decide) h
    rcases h with rfl | rfl
    · exact key ⟨#[69]⟩ (by decide)
    · exact key ⟨#[68]⟩ (by decide)
  | @act i e a hi he ha ih =>
    refine un (fun hm => ?_) ih
    have hm : w ∈ [⟨#[91]⟩, X.getD i ByteArray.empty, ⟨#[46]⟩, digW e, ⟨#[93]⟩] := hm
    simp only [List.mem_cons, List.not_mem_nil, or_false] at hm
    rcases hm with h | h | h | h | h
    · exact hl _ (by decide) h
    · exact nX hi h
    · exact hl _ (by decide) h
    · exact hl _ (dig_no he) h
    · exact hl _ (by decide) h
  | @mid op a b h ha hb iha ihb =>
    have hne : op ≠ 16 ∧ op ≠ 14 ∧ op ≠ 13 ∧ nameOk (signW op) = false := by rcases h with rfl | rfl | rfl | rfl | rfl | rfl <;> decide
    refine bin (by rw [prW_bin, if_neg (show ¬ (nd1 op).op = 16 from hne.1), if_neg (show ¬ (nd1 op).op = 14 from hne.2.1), if_neg (show ¬ (nd1 op).op = 13 from hne.2.2.1)]) ?_ iha ihb
    rw [List.mem_append, enc_mem hw]
    exact or_congr Iff.rfl (no1 (hl _ hne.2.2.2) (enc_mem hw))
  | @announce a b ha hb iha ihb =>
    refine bin (by rw [prW_bin, if_pos (show (nd1 16).op = 16 from rfl)]) ?_ iha ihb
    refine no1 (hl _ (by decide)) (no1 (hl _ (by decide)) ?_)
    rw [List.mem_append]
    exact or_congr Iff.rfl (no1 (hl _ (by decide)) (enc_mem hw))
  | @belief i a b hi ha hb iha ihb =>
    refine bin (by rw [prW_bin, if_neg (show ¬ ((14 : Int) = 16) by decide), if_pos (show (14 : Int) = 14 from rfl)]) ?_ iha ihb
    refine no1 (hl _ (by decide)) (no1 (hl _ (by decide)) (no1 (nA hi) ?_))
    rw [List.mem_append]
    exact or_congr (cond ha) (no1 (hl _ (by decide)) (enc_mem hw))
  | @common g a b h0 hg ha hb iha ihb =>
    refine bin (by rw [prW_bin, if_neg (show ¬ ((13 : Int) = 16) by decide), if_neg (show ¬ ((13 : Int) = 14) by decide), if_pos (show (13 : Int) = 13 from rfl)]) ?_ iha ihb
    refine no1 (hl _ (by decide)) (no1 (hl _ (by decide)) ?_)
    rw [List.mem_append]
    refine ⟨fun h => ?_, fun h => .inr ?_⟩
    · rcases h with h | h
      · exact absurd h (nG _)
      · rw [List.mem_append] at h
        exact (or_congr (cond ha) (no1 (hl _ (by decide)) (enc_mem hw))).1 h
    · rw [List.mem_append]
      exact (or_congr (cond ha) (no1 (hl _ (by decide)) (enc_mem hw))).2 h
end Go.Proofs.YtenbhalnpiahaaaGreatDoor
/- Layer 7 as plain mathematics: the agents whose names stand in a formula's text are those of the formula. -/
namespace Go.Proofs.YtenbhalnpiahaaaGreatDoor
open Go.RowKit Go.Proofs.Ws Go.Maps
def rootN : Tr → Nd
  | .leaf n => n
  | .un n _ => n
  | .bin n _ _ => n
theorem more_has (A : List ByteArray) {w : ByteArray} (hw : w ≠ ⟨#[44]⟩) : ∀ js : List Nat, w ∈ moreW A js ↔ ∃ j ∈ js, A.getD j ByteArray.empty = w
  | [] => by simp [moreW]
  | j :: js => by
    show w ∈ ⟨#[44]⟩ :: A.getD j ByteArray.empty :: moreW A js ↔ _
    rw [List.mem_cons, List.mem_cons, more_has A hw js]
    exact ⟨fun h => by
      rcases h with h | h | ⟨i, h1, h2⟩
      · exact absurd h hw
      · exact ⟨j, by simp, h.symm⟩
      · exact ⟨i, by simp [h1], h2⟩, fun ⟨i, h1, h2⟩ => by
      rcases List.mem_cons.1 h1 with rfl | h1
      · exact .inr (.inl h2.symm)
      · exact .inr (.inr ⟨i, h1, h2⟩)⟩
theorem grp_has (A : List ByteArray) {w : ByteArray} (hw : w ≠ ⟨#[44]⟩) (g : Nat) : w ∈ grpW A g ↔ ∃ j ∈ grpI A.length g, A.getD j ByteArray.empty = w := by
  unfold grpW
  cases grpI A.length g with
  | nil => simp
  | cons j js =>
    show w ∈ A.getD j ByteArray.empty :: moreW A js ↔ _
    rw [List.mem_cons, more_has A hw js]
    exact ⟨fun h => by
      rcases h with h | ⟨i, h1, h2⟩
      · exact ⟨j, by simp, h.symm⟩
      · exact ⟨i, by simp [h1], h2⟩, fun ⟨i, h1, h2⟩ => by
      rcases List.mem_cons.1 h1 with rfl | h1
      · exact .inl h2.symm
      · exact .inr ⟨i, h1, h2⟩⟩
theorem getD_inj {A : List ByteArray} (hn : A.Nodup) {i k : Nat} (hi : i < A.length) (hk : k < A.length) (h : A.getD i ByteArray.empty = A.getD k ByteArray.empty) : i = k := by
  have h1 := Ws.idx_at hn hi
  have h2 := Ws.idx_at hn hk
  rw [h, h2] at h1
  omega
/-- an agent's name stands in a formula's text exactly if a node of the formula has the agent -/
theorem agent_mem {A F X : List ByteArray} {k : Nat} (hk : k < A.length) (hn : A.Nodup) (hw : nameOk (A.getD k ByteArray.empty) = true) (hF : A.getD k ByteArray.empty ∉ F) (hX : A.getD k ByteArray.empty ∉ X) {t : Tr} (h : PrT A.length F.length X.length t) :
    A.getD k ByteArray.empty ∈ prW A F X t ↔ ∃ s, subT s t ∧ (agentD (rootN s)).testBit k = true := by
  obtain ⟨w, ew⟩ : ∃ w, A.getD k ByteArray.empty = w := ⟨_, rfl⟩
  have inj : ∀ {i : Nat}, i < A.length → (w = A.getD i ByteArray.empty ↔ i = k) := fun {i} hi => ⟨fun e => getD_inj hn hi hk (by rw [← e, ew]), fun e => by subst e; exact ew.symm⟩
  rw [ew] at hw hF hX ⊢
  have hl : ∀ x, nameOk x = false → w ≠ x := fun x h e => by rw [← e, hw] at h; cases h
  have mem : ∀ {l : List ByteArray} {i : Nat}, i < l.length → l.getD i ByteArray.empty ∈ l := fun hi => by rw [List.getD_eq_getElem?_getD, List.getElem?_eq_getElem hi]; exact List.getElem_mem hi
  have nF : ∀ {i : Nat}, i < F.length → w ≠ F.getD i ByteArray.empty := fun hi e => hF (e ▸ mem hi)
  have nX : ∀ {i : Nat}, i < X.length → w ≠ X.getD i ByteArray.empty := fun hi e => hX (e ▸ mem hi)
  have nG : ∀ g, w ∈ grpW A g ↔ g.testBit k = true := fun g => by
    rw [grp_has A (hl _ (by decide)) g]
    exact ⟨fun ⟨j, h1, h2⟩ => by
      obtain ⟨h3, h4⟩ := grpI_mem.1 h1
      have := (inj h3).1 h2.symm
      subst this
      exact h4, fun h => ⟨k, grpI_mem.2 ⟨hk, h⟩, ew⟩⟩
  have leaf : ∀ {n : Nd} {x : ByteArray}, w ≠ x → agentD n = 0 → (w ∈ [x] ↔ ∃ s, subT s (.leaf n) ∧ (agentD (rootN s)).testBit k = true) := by
    intro n x hx h0
    refine ⟨fun h => absurd (List.mem_singleton.1 h) hx, fun ⟨s, h1, h2⟩ => ?_⟩
    have : s = .leaf n := h1
    rw [this, show agentD (rootN (.leaf n)) = 0 from h0] at h2
    simp at h2
  have un : ∀ {n : Nd} {a : Tr}, (w ∈ headW A X n ↔ (agentD n).testBit k = true) → (w ∈ prW A F X a ↔ ∃ s, subT s a ∧ (agentD (rootN s)).testBit k = true) → (w ∈ prW A F X (.un n a) ↔ ∃ s, subT s (.un n a) ∧ (agentD (rootN s)).testBit k = true) := by
    intro n a hh ih
    rw [prW_un, List.mem_append, enc_mem hw, ih, hh]
    exact ⟨fun h => by rcases h with h | ⟨s, h1, h2⟩; exact ⟨_, .inl rfl, h⟩; exact ⟨s, .inr h1, h2⟩, fun ⟨s, h1, h2⟩ => by rcases h1 with rfl | h1; exact .inl h2; exact .inr ⟨s, h1, h2⟩⟩
  have bin : ∀ {n : Nd} {a b : Tr} {ws : List ByteArray}, prW A F X (.bin n a b) = ws → (w ∈ ws ↔ (agentD n).testBit k = true ∨ w ∈ prW A F X a ∨ w ∈ prW A F X b) → (w ∈ prW A F X a ↔ ∃ s, subT s a ∧ (agentD (rootN s)).testBit k = true) → (w ∈ prW A F X b ↔ ∃ s, subT s b ∧ (agentD (rootN s)).testBit k = true) →
      (w ∈ prW A F X (.bin n a b) ↔ ∃ s, subT s (.bin n a b) ∧ (agentD (rootN s)).testBit k = true) := by
    intro n a b ws e hm iha ihb
    rw [e, hm, iha, ihb]
    exact ⟨fun h => by rcases h with h | ⟨s, h1, h2⟩ | ⟨s, h1, h2⟩; exact ⟨_, .inl rfl, h⟩; exact ⟨s, .inr (.inl h1), h2⟩; exact ⟨s, .inr (.inr h1), h2⟩,
      fun ⟨s, h1, h2⟩ => by rcases h1 with rfl | h1 | h1; exact .inl h2; exact .inr (.inl ⟨s, h1, h2⟩); exact .inr (.inr ⟨s, h1, h2⟩)⟩
  have cond : ∀ {a : Tr}, PrT A.length F.length X.length a → (w ∈ condW (opTr a) (prW A F X a) ↔ w ∈ prW A F X a) := by
    intro a ha
    unfold condW
    by_cases h1 : opTr a = 1
    · rw [if_pos h1, ha.one h1]
      exact ⟨fun h => by simp at h, fun h => absurd (List.mem_singleton.1 (show w ∈ [⟨#[116, 114, 117, 101]⟩] from h)) (hl _ (by decide))⟩
    · rw [if_neg h1, List.mem_cons]
      exact ⟨fun h => by rcases h with h | h; exact absurd h (hl _ (by decide)); exact h, .inr⟩
  have no1 : ∀ {x : ByteArray} {l : List ByteArray} {P : Prop}, w ≠ x → (w ∈ l ↔ P) → (w ∈ x :: l ↔ P) := fun {x l P} hx hp => by rw [List.mem_cons]; exact ⟨fun h => by rcases h with h | h; exact absurd h hx; exact hp.1 h, fun h => .inr (hp.2 h)⟩
  have none_ : ∀ {n : Nd} {P Q : Prop}, agentD n = 0 → (P ↔ Q) → (P ↔ (agentD n).testBit k = true ∨ Q) := fun {n P Q} h0 h => by
    rw [h, h0]
    exact ⟨.inr, fun h => by rcases h with h | h; simp at h; exact h⟩
  have ag : ∀ {op : Int} {i : Nat}, hasAgent op = true → i < A.length → (w = A.getD i ByteArray.empty ↔ (agentD ⟨op, (i : Int), 0, 0, 0, 0⟩).testBit k = true) := fun {op i} ho hi => by
    rw [inj hi]
    unfold agentD
    rw [if_pos (show hasAgent (Nd.op ⟨op, (i : Int), 0, 0, 0, 0⟩) = true from ho)]
    show i = k ↔ (2 ^ ((i : Int)).toNat).testBit k = true
    rw [Int.toNat_natCast, Nat.testBit_two_pow, decide_eq_true_eq]
  induction h with
  | tt => exact leaf (n := nd1 1) (x := ⟨#[116, 114, 117, 101]⟩) (hl _ (by decide)) rfl
  | ff => exact leaf (n := nd1 2) (x := ⟨#[102, 97, 108, 115, 101]⟩) (hl _ (by decide)) rfl
  | @fact i hi => exact leaf (nF hi) rfl
  | @plain op a h ha ih =>
    refine un ?_ ih
    have h0 : agentD (nd1 op) = 0 := by rcases h with rfl | rfl | rfl <;> rfl
    rw [h0]
    refine ⟨fun hm => ?_, fun hm => by simp at hm⟩
    rcases h with rfl | rfl | rfl
    · exact absurd (List.mem_singleton.1 (show w ∈ [⟨#[126]⟩] from hm)) (hl _ (by decide))
    · exact absurd (List.mem_singleton.1 (show w ∈ [⟨#[110, 101, 120, 116]⟩] from hm)) (hl _ (by decide))
    · exact absurd (List.mem_singleton.1 (show w ∈ [⟨#[112, 114, 101, 118]⟩] from hm)) (hl _ (by decide))
  | @agent op i a h hi ha ih =>
    refine un ?_ ih
    have ho : hasAgent op = true := by rcases h with rfl | rfl | rfl <;> rfl
    rw [← ag ho hi]
    have key : ∀ c : ByteArray, nameOk c = false → (w ∈ [c, ⟨#[91]⟩, A.getD i ByteArray.empty, ⟨#[93]⟩] ↔ w = A.getD i ByteArray.empty) := fun c hc => by
      refine no1 (hl _ hc) (no1 (hl _ (by decide)) ?_)
      rw [List.mem_cons, List.mem_singleton]
      exact ⟨fun h => by rcases h with h | h; exact h; exact absurd h (hl _ (by decide)), .inl⟩
    rcases h with rfl | rfl | rfl
    · exact key ⟨#[75]⟩ (by decide)
    · exact key ⟨#[77]⟩ (by decide)
    · exact key ⟨#[83]⟩ (by decide)
  | @group op g a h h0 hg ha ih =>
    refine un ?_ ih
    have hd : agentD ⟨op, 0, 0, (g : Int), 0, 0⟩ = g := by rcases h with rfl | rfl <;> exact Int.toNat_natCast g
    rw [hd, ← nG g]
    have key : ∀ c : ByteArray, nameOk c = false → (w ∈ c :: ⟨#[91]⟩ :: (grpW A g ++ [⟨#[93]⟩]) ↔ w ∈ grpW A g) := fun c hc => by
      refine no1 (hl _ hc) (no1 (hl _ (by decide)) ?_)
      rw [List.mem_append, List.mem_singleton]
      exact ⟨fun h => by rcases h with h | h; exact h; exact absurd h (hl _ (by decide)), .inl⟩
    rcases h with rfl | rfl
    · exact key ⟨#[69]⟩ (by decide)
    · exact key ⟨#[68]⟩ (by decide)
  | @act i e a hi he ha ih =>
    refine un ?_ ih
    have h0 : agentD ⟨17, (i : Int), (e : Int), 0, 0, 0⟩ = 0 := rfl
    rw [h0]
    refine ⟨fun hm => ?_, fun hm => by simp at hm⟩
    have hm : w ∈ [⟨#[91]⟩, X.getD i ByteArray.empty, ⟨#[46]⟩, digW e, ⟨#[93]⟩] := hm
    simp only [List.mem_cons, List.not_mem_nil, or_false] at hm
    rcases hm with h | h | h | h | h
    · exact absurd h (hl _ (by decide))
    · exact absurd h (nX hi)
    · exact absurd h (hl _ (by decide))
    · exact absurd h (hl _ (dig_no he))
    · exact absurd h (hl _ (by decide))
  | @mid op a b h ha hb iha ihb =>
    have hne : op ≠ 16 ∧ op ≠ 14 ∧ op ≠ 13 ∧ nameOk (signW op) = false := by rcases h with rfl | rfl | rfl | rfl | rfl | rfl <;> decide
    have h0 : agentD (nd1 op) = 0 := by rcases h with rfl | rfl | rfl | rfl | rfl | rfl <;> rfl
    refine bin (by rw [prW_bin, if_neg (show ¬ (nd1 op).op = 16 from hne.1), if_neg (show ¬ (nd1 op).op = 14 from hne.2.1), if_neg (show ¬ (nd1 op).op = 13 from hne.2.2.1)]) (none_ h0 ?_) iha ihb
    rw [List.mem_append, enc_mem hw]
    exact or_congr Iff.rfl (no1 (hl _ hne.2.2.2) (enc_mem hw))
  | @announce a b ha hb iha ihb =>
    refine bin (by rw [prW_bin, if_pos (show (nd1 16).op = 16 from rfl)]) (none_ rfl ?_) iha ihb
    refine no1 (hl _ (by decide)) (no1 (hl _ (by decide)) ?_)
    rw [List.mem_append]
    exact or_congr Iff.rfl (no1 (hl _ (by decide)) (enc_mem hw))
  | @belief i a b hi ha hb iha ihb =>
    refine bin (by rw [prW_bin, if_neg (show ¬ ((14 : Int) = 16) by decide), if_pos (show (14 : Int) = 14 from rfl)]) ?_ iha ihb
    refine no1 (hl _ (by decide)) (no1 (hl _ (by decide)) ?_)
    rw [List.mem_cons, ← ag (op := 14) rfl hi, List.mem_append]
    exact or_congr Iff.rfl (or_congr (cond ha) (no1 (hl _ (by decide)) (enc_mem hw)))
  | @common g a b h0 hg ha hb iha ihb =>
    refine bin (by rw [prW_bin, if_neg (show ¬ ((13 : Int) = 16) by decide), if_neg (show ¬ ((13 : Int) = 14) by decide), if_pos (show (13 : Int) = 13 from rfl)]) ?_ iha ihb
    refine no1 (hl _ (by decide)) (no1 (hl _ (by decide)) ?_)
    have hd : agentD ⟨13, 0, 0, (g : Int), 0, 0⟩ = g := Int.toNat_natCast g
    rw [hd, ← nG g, List.mem_append, List.mem_append]
    exact or_congr (by show w ∈ grpW A ((g : Int)).toNat ↔ _; rw [Int.toNat_natCast]) (or_congr (cond ha) (no1 (hl _ (by decide)) (enc_mem hw)))
end Go.Proofs.YtenbhalnpiahaaaGreatDoor
/- Layer 7 as plain mathematics: masks of a canonical list by the parts of its tree. -/
namespace Go.Proofs.YtenbhalnpiahaaaGreatDoor
open Go.RowKit Go.Proofs.Ws Go.Maps
theorem mask_bit (g : Nd → Nat) (k : Nat) : ∀ (l : List Nd) (a : Nat), (l.foldl (fun m n => m ||| g n) a).testBit k = true ↔ a.testBit k = true ∨ ∃ n ∈ l, (g n).testBit k = true
  | [], a => by simp
  | x :: l, a => by
    rw [List.foldl_cons, mask_bit g k l, Nat.testBit_or, Bool.or_eq_true]
    exact ⟨fun h => by
      rcases h with (h | h) | ⟨n, h1, h2⟩
      · exact .inl h
      · exact .inr ⟨x, by simp, h⟩
      · exact .inr ⟨n, by simp [h1], h2⟩, fun h => by
      rcases h with h | ⟨n, h1, h2⟩
      · exact .inl (.inl h)
      · rcases List.mem_cons.1 h1 with rfl | h1
        · exact .inl (.inr h2)
        · exact .inr ⟨n, h1, h2⟩⟩
theorem root_at {f : List Nd} (hf : opsL f) {i : Nat} (hi : i < f.length) : rootN (treeAt f i) = bare (f.getD i nd0) := by
  rw [treeAt_eq hf hi]
  split
  · rfl
  · split <;> rfl
theorem root_rep {g : Nd → Nat} (hg : ∀ n, g (bare n) = g n) {o : List Nd} {j : Nat} : ∀ {s : Tr}, rep o j s → ∃ n ∈ o, g n = g (rootN s)
  | .leaf n, h => ⟨n, List.mem_of_getElem? h, rfl⟩
  | .un n a, ⟨x, h, _⟩ => ⟨_, List.mem_of_getElem? h, by rw [← hg]; exact hg n⟩
  | .bin n a b, ⟨x, y, h, _⟩ => ⟨_, List.mem_of_getElem? h, by rw [← hg]; exact hg n⟩
theorem mask_sub {g : Nd → Nat} (hg : ∀ n, g (bare n) = g n) {t : Tr} (ht : trOk t) (k : Nat) : (maskL g (canT t)).testBit k = true ↔ ∃ s, subT s t ∧ (g (rootN s)).testBit k = true := by
  unfold maskL
  rw [mask_bit]
  constructor
  · intro h
    rcases h with h | ⟨n, h1, h2⟩
    · simp at h
    · obtain ⟨j, hj, e⟩ := List.getElem_of_mem h1
      refine ⟨treeAt (canT t) j, canT_sub ht hj, ?_⟩
      rw [root_at (canT_ops ht) hj, hg, show (canT t).getD j nd0 = n from by rw [List.getD_eq_getElem?_getD, List.getElem?_eq_getElem hj]; exact e]
      exact h2
  · rintro ⟨s, h1, h2⟩
    obtain ⟨j, hj⟩ := rep_sub (o := canT t) (finT_rep t []) h1
    obtain ⟨n, h3, h4⟩ := root_rep hg hj
    exact .inr ⟨n, h3, by rw [h4]; exact h2⟩
theorem PrT_sub {na nf nx : Nat} {t : Tr} (h : PrT na nf nx t) : ∀ s, subT s t → PrT na nf nx s := by
  have whole : ∀ {t s : Tr}, PrT na nf nx t → s = t → PrT na nf nx s := fun h e => e ▸ h
  induction h with
  | tt => exact fun s hs => whole PrT.tt hs
  | ff => exact fun s hs => whole PrT.ff hs
  | fact hi => exact fun s hs => whole (PrT.fact hi) hs
  | plain h ha ih => exact fun s hs => hs.elim (whole (PrT.plain h ha)) (ih s)
  | agent h hi ha ih => exact fun s hs => hs.elim (whole (PrT.agent h hi ha)) (ih s)
  | group h h0 hg ha ih => exact fun s hs => hs.elim (whole (PrT.group h h0 hg ha)) (ih s)
  | act hi he ha ih => exact fun s hs => hs.elim (whole (PrT.act hi he ha)) (ih s)
  | mid h ha hb iha ihb => exact fun s hs => hs.elim (whole (PrT.mid h ha hb)) (fun h => h.elim (iha s) (ihb s))
  | announce ha hb iha ihb => exact fun s hs => hs.elim (whole (PrT.announce ha hb)) (fun h => h.elim (iha s) (ihb s))
  | belief hi ha hb iha ihb => exact fun s hs => hs.elim (whole (PrT.belief hi ha hb)) (fun h => h.elim (iha s) (ihb s))
  | common h0 hg ha hb iha ihb => exact fun s hs => hs.elim (whole (PrT.common h0 hg ha hb)) (fun h => h.elim (iha s) (ihb s))
/-- the agents' names in the text are those of the mask of agents -/
theorem agent_names {A F X : List ByteArray} {k : Nat} (hk : k < A.length) (hn : A.Nodup) (hw : nameOk (A.getD k ByteArray.empty) = true) (hF : A.getD k ByteArray.empty ∉ F) (hX : A.getD k ByteArray.empty ∉ X) {t : Tr} (ht : trOk t) (h : PrT A.length F.length X.length t) :
    A.getD k ByteArray.empty ∈ prW A F X t ↔ (maskL agentD (canT t)).testBit k = true := by
  rw [agent_mem hk hn hw hF hX h, mask_sub (fun n => rfl) ht]
/-- the facts' names in the text are those of the mask of facts -/
theorem fact_names {A F X : List ByteArray} {k : Nat} (hk : k < F.length) (hn : F.Nodup) (hw : nameOk (F.getD k ByteArray.empty) = true) (hA : F.getD k ByteArray.empty ∉ A) (hX : F.getD k ByteArray.empty ∉ X) {t : Tr} (ht : trOk t) (h : PrT A.length F.length X.length t) :
    F.getD k ByteArray.empty ∈ prW A F X t ↔ (maskL factD (canT t)).testBit k = true := by
  rw [fact_mem hw hA hX h, mask_sub (fun n => rfl) ht]
  constructor
  · rintro ⟨i, hi, h1, h2⟩
    have := getD_inj hn hi hk h1
    subst this
    refine ⟨_, h2, ?_⟩
    show (2 ^ ((i : Int)).toNat).testBit i = true
    rw [Int.toNat_natCast, Nat.testBit_two_pow]; simp
  · rintro ⟨s, h1, h2⟩
    have hp := PrT_sub h s h1
    have zero : factD (rootN s) = 0 → False := fun e => by rw [e] at h2; simp at h2
    cases hp with
    | tt => exact (zero rfl).elim
    | ff => exact (zero rfl).elim
    | @fact i hi =>
      have h3 : (2 ^ ((i : Int)).toNat).testBit k = true := h2
      rw [Int.toNat_natCast, Nat.testBit_two_pow, decide_eq_true_eq] at h3
      subst h3
      exact ⟨i, hi, rfl, h1⟩
    | plain h ha => rcases h with rfl | rfl | rfl <;> exact (zero rfl).elim
    | agent h hi ha => rcases h with rfl | rfl | rfl <;> exact (zero rfl).elim
    | group h h0 hg ha => rcases h with rfl | rfl <;> exact (zero rfl).elim
    | act hi he ha => exact (zero rfl).elim
    | mid h ha hb => rcases h with rfl | rfl | rfl | rfl | rfl | rfl <;> exact (zero rfl).elim
    | announce ha hb => exact (zero rfl).elim
    | belief hi ha hb => exact (zero rfl).elim
    | common h0 hg ha hb => exact (zero rfl).elim
end Go.Proofs.YtenbhalnpiahaaaGreatDoor
