/- Layer 6: texts joined: Zh Zi Zj Zk Zl. -/
import Derived.Test.YtenbhalnpiahaaaGreatDoorJm
import Derived.Test.YtenbhalnpiahaaaGreatDoorJw
import Derived.Test.YtenbhalnpiahaaaGreatDoorJx
/- Layer 7 as plain mathematics: formulas have the same text exactly if they are equal. -/
namespace Go.Proofs.YtenbhalnpiahaaaGreatDoor
open Go.RowKit Go.Proofs.Ws Go.Maps
end Go.Proofs.YtenbhalnpiahaaaGreatDoor
/- Layer 7 as plain mathematics: a tree that is read has all its names in the signature, those of action models too; what was read can be printed. -/
namespace Go.Proofs.YtenbhalnpiahaaaGreatDoor
open Go.RowKit Go.Proofs.Ws Go.Maps
theorem okX_plain {E : PEnv} {op : Int} (h : fldOk ⟨op, 0, 0, 0, 0, 0⟩) (h3 : op ≠ 3) (ha : hasAgent op = false) (h17 : op ≠ 17 := by decide) : okX E ⟨op, 0, 0, 0, 0, 0⟩ := ⟨okE_plain h h3 ha, fun e => absurd e h17⟩
theorem fldX_agent {E : PEnv} (hE : ShortE E) {op : Int} (ho : op = 9 ∨ op = 10 ∨ op = 14 ∨ op = 15) {a : Nat} (h : a < E.A.length) : okX E ⟨op, a, 0, 0, 0, 0⟩ := ⟨fld_agent hE ho h, fun e => by dsimp only at e; omega⟩
theorem fldX_group {E : PEnv} (hE : ShortE E) {op : Int} (ho : op = 11 ∨ op = 12 ∨ op = 13) {g : Nat} (h1 : 1 ≤ g) (h : g < 2 ^ E.A.length) : okX E ⟨op, 0, 0, g, 0, 0⟩ := ⟨fld_group hE ho h1 h, fun e => by dsimp only at e; omega⟩
theorem fldX_num {E : PEnv} (hE : ShortE E) {op : Int} {a e : Nat} (he : e < 8) (ho : (op = 3 ∧ e = 0 ∧ a < E.F.length) ∨ (op = 17 ∧ a < E.X.length)) : okX E ⟨op, a, e, 0, 0, 0⟩ := ⟨fld_num hE he ho, fun h => by
  dsimp only at h ⊢
  rcases ho with ⟨h1, _, _⟩ | ⟨_, h2⟩
  · omega
  · omega⟩
def TOX (E : PEnv) (t : Tr) : Prop := trOk t ∧ trAll (okX E) t
theorem TOX.leaf {E : PEnv} {n : Nd} (hb : bare n = n) (hf : okX E n) (hx : usesX n.op = false) : TOX E (.leaf n) := by
  have hy : usesY n.op = false := by
    cases h : usesY n.op with
    | false => rfl
    | true => have := usesY_X h; rw [hx] at this; cases this
  exact ⟨⟨hx, hy, hb⟩, hf⟩
theorem TOX.un {E : PEnv} {n : Nd} {t : Tr} (ht : TOX E t) (hb : bare n = n) (hf : okX E n) (hx : usesX n.op = true) (hy : usesY n.op = false) : TOX E (.un n t) := ⟨⟨hx, hy, hb, ht.1⟩, ⟨hf, ht.2⟩⟩
theorem TOX.bin {E : PEnv} {n : Nd} {t t2 : Tr} (ht : TOX E t) (ht2 : TOX E t2) (hb : bare n = n) (hf : okX E n) (hx : usesX n.op = true) (hy : usesY n.op = true) : TOX E (.bin n t t2) := ⟨⟨hx, hy, hb, ht.1, ht2.1⟩, ⟨hf, ht.2, ht2.2⟩⟩
/-- the accumulator of a loop -/
def TRule.goodX (E : PEnv) : TRule → Prop
  | .iffL x => TOX E x
  | .orL x => TOX E x
  | .andL x => TOX E x
  | _ => True
set_option maxHeartbeats 2000000 in
theorem runT_okX {E : PEnv} (hE : ShortE E) : ∀ (n : Nat) (rule : TRule) (p p' : Nat) (t : Tr), TRule.goodX E rule → Ws.runT E n rule p = some (.ok t p') → TOX E t := by
  intro n
  induction n with
  | zero => intro rule p p' t _ h; cases h
  | succ n ih =>
    intro rule p p' t hg h
    have loop1 : ∀ {sg : ByteArray} {op : Int} {x : Tr} {r : TRule} {k : Tr → TRule} (_ : TRule.goodX E r) (_ : ∀ a, TOX E a → TRule.goodX E (k a)) (_ : okX E (nd1 op)) (_ : usesX op = true) (_ : usesY op = true), TOX E x →
        (if tkT E p = sg then tbind (Ws.runT E n r (p + 1)) fun y p => Ws.runT E n (k (.bin (nd1 op) x y)) p else some (.ok x p)) = some (.ok t p') → TOX E t := by
      intro sg op x r k hr hk hf hux huy hx h
      split at h
      · obtain ⟨y, p1, h1, h2⟩ := tbind_ok h
        exact ih _ _ _ _ (hk _ (TOX.bin (n := nd1 op) hx (ih _ _ _ _ hr h1) rfl hf hux huy)) h2
      · injection h with h
        injection h with h3 h4
        rw [← h3]
        exact hx
    have two1 : ∀ {op : Int} {x : Tr} {r : TRule} {p1 : Nat} (_ : TRule.goodX E r) (_ : okX E (nd1 op)) (_ : usesX op = true) (_ : usesY op = true), TOX E x →
        (tbind (Ws.runT E n r p1) fun y p => some (.ok (.bin (nd1 op) x y) p)) = some (.ok t p') → TOX E t := by
      intro op x r p1 hr hf hux huy hx h
      obtain ⟨y, p2, h1, h2⟩ := tbind_ok h
      injection h2 with h2
      injection h2 with h3 h4
      rw [← h3]
      exact TOX.bin (n := nd1 op) hx (ih _ _ _ _ hr h1) rfl hf hux huy
    have one1 : ∀ {x : Tr} {p1 : Nat}, TOX E x → (some (.ok x p1) : Option TRes) = some (.ok t p') → TOX E t := by
      intro x p1 hx h
      injection h with h
      injection h with h3 h4
      rw [← h3]
      exact hx
    cases rule with
    | formula =>
      unfold Ws.runT at h
      obtain ⟨x, s1, h1, h2⟩ := tbind_ok h
      exact ih (.iffL x) _ _ _ (ih .implies _ _ _ trivial h1) h2
    | or =>
      unfold Ws.runT at h
      obtain ⟨x, s1, h1, h2⟩ := tbind_ok h
      exact ih (.orL x) _ _ _ (ih .and _ _ _ trivial h1) h2
    | and =>
      unfold Ws.runT at h
      obtain ⟨x, s1, h1, h2⟩ := tbind_ok h
      exact ih (.andL x) _ _ _ (ih .pre _ _ _ trivial h1) h2
    | iffL x => unfold Ws.runT at h; exact loop1 (r := .implies) (k := .iffL) trivial (fun _ h => h) (okX_plain (by decide) (by decide) rfl) rfl rfl hg h
    | orL x => unfold Ws.runT at h; exact loop1 (r := .and) (k := .orL) trivial (fun _ h => h) (okX_plain (by decide) (by decide) rfl) rfl rfl hg h
    | andL x => unfold Ws.runT at h; exact loop1 (r := .pre) (k := .andL) trivial (fun _ h => h) (okX_plain (by decide) (by decide) rfl) rfl rfl hg h
    | implies =>
      unfold Ws.runT at h
      obtain ⟨x, s1, h1, h2⟩ := tbind_ok h
      have hx := ih .time _ _ _ trivial h1
      split at h2
      · exact two1 (r := .implies) trivial (okX_plain (by decide) (by decide) rfl) rfl rfl hx h2
      · exact one1 hx h2
    | time =>
      unfold Ws.runT at h
      obtain ⟨x, s1, h1, h2⟩ := tbind_ok h
      have hx := ih .or _ _ _ trivial h1
      split at h2
      · exact two1 (r := .time) trivial (okX_plain (by decide) (by decide) rfl) rfl rfl hx h2
      · split at h2
        · exact two1 (r := .time) trivial (okX_plain (by decide) (by decide) rfl) rfl rfl hx h2
        · exact one1 hx h2
    | pre =>
      have unI : ∀ {op i e g : Int} {p1 : Nat}, usesX op = true → usesY op = false → okX E ⟨op, i, e, g, 0, 0⟩ →
          (tbind (Ws.runT E n .pre p1) fun x p => some (.ok (.un ⟨op, i, e, g, 0, 0⟩ x) p)) = some (.ok t p') → TOX E t := by
        intro op i e g p1 hux huy hf h
        obtain ⟨x, p2, h1, h2⟩ := tbind_ok h
        exact one1 (TOX.un (n := ⟨op, i, e, g, 0, 0⟩) (ih .pre _ _ _ trivial h1) rfl hf hux huy) h2
      have binI : ∀ {op i g : Int} {c : Tr} {p1 : Nat}, TOX E c → usesX op = true → usesY op = true → okX E ⟨op, i, 0, g, 0, 0⟩ →
          (expectT E ⟨#[93]⟩ p1 fun p => tbind (Ws.runT E n .pre p) fun x p => some (.ok (.bin ⟨op, i, 0, g, 0, 0⟩ c x) p)) = some (.ok t p') → TOX E t := by
        intro op i g c p1 hc hux huy hf h
        obtain ⟨x, p2, h1, h2⟩ := tbind_ok (expectT_ok h)
        exact one1 (TOX.bin (n := ⟨op, i, 0, g, 0, 0⟩) hc (ih .pre _ _ _ trivial h1) rfl hf hux huy) h2
      have agR : ∀ {op : Int}, (op = 9 ∨ op = 10 ∨ op = 15) →
          (expectT E ⟨#[91]⟩ (p + 1) fun p => nbind (some (nameP E 1 ⟨p, []⟩)) fun a p => expectT E ⟨#[93]⟩ p fun p => tbind (Ws.runT E n .pre p) fun x p => some (.ok (.un ⟨op, a, 0, 0, 0, 0⟩ x) p)) = some (.ok t p') → TOX E t := by
        intro op ho h
        obtain ⟨a, s1, h1, h2⟩ := nbind_ok (expectT_ok h)
        obtain ⟨ha, _⟩ := name_ok h1
        have ha4 : a < E.A.length := by simpa using ha
        refine unI ?_ ?_ (fldX_agent hE (by omega) ha4) (expectT_ok h2)
        · rcases ho with rfl | rfl | rfl <;> rfl
        · rcases ho with rfl | rfl | rfl <;> rfl
      have grR : ∀ {op : Int}, (op = 11 ∨ op = 12) →
          (expectT E ⟨#[91]⟩ (p + 1) fun p => nbind (some (nameP E 1 ⟨p, []⟩)) fun a p => nbind (agentsL E (E.ws.length + 1) (2 ^ a) ⟨p, []⟩) fun g p => expectT E ⟨#[93]⟩ p fun p => tbind (Ws.runT E n .pre p) fun x p => some (.ok (.un ⟨op, 0, 0, g, 0, 0⟩ x) p)) = some (.ok t p') → TOX E t := by
        intro op ho h
        obtain ⟨a, s1, h1, h2⟩ := nbind_ok (expectT_ok h)
        obtain ⟨ha, _⟩ := name_ok h1
        have ha4 : a < E.A.length := by simpa using ha
        obtain ⟨g, s2, h3, h4⟩ := nbind_ok h2
        obtain ⟨g1, g2, _⟩ := agents_ok _ _ _ _ _ (Nat.two_pow_pos a) (Nat.pow_lt_pow_right (by decide) ha4) h3
        refine unI ?_ ?_ (fldX_group hE (by omega) g1 g2) (expectT_ok h4)
        · rcases ho with rfl | rfl <;> rfl
        · rcases ho with rfl | rfl <;> rfl
      have barR : ∀ {p1 : Nat} {k : Tr → Nat → Option TRes}, (if tkT E p1 = ⟨#[124]⟩ then tbind (Ws.runT E n .formula (p1 + 1)) k else k (.leaf (nd1 1)) p1) = some (.ok t p') →
          ∃ c p2, TOX E c ∧ k c p2 = some (.ok t p') := by
        intro p1 k h
        split at h
        · obtain ⟨c, p2, h1, h2⟩ := tbind_ok h
          exact ⟨c, p2, ih .formula _ _ _ trivial h1, h2⟩
        · exact ⟨_, p1, TOX.leaf (n := nd1 1) rfl (okX_plain (by decide) (by decide) rfl) rfl, h⟩
      unfold Ws.runT at h
      dsimp only at h
      by_cases c0 : tkT E p = ⟨#[126]⟩
      · rw [if_pos c0] at h
        exact unI (op := 4) rfl rfl (okX_plain (by decide) (by decide) rfl) h
      rw [if_neg c0] at h
      by_cases c1 : tkT E p = ⟨#[110, 101, 120, 116]⟩
      · rw [if_pos c1] at h
        exact unI (op := 18) rfl rfl (okX_plain (by decide) (by decide) rfl) h
      rw [if_neg c1] at h
      by_cases c2 : tkT E p = ⟨#[112, 114, 101, 118]⟩
      · rw [if_pos c2] at h
        exact unI (op := 20) rfl rfl (okX_plain (by decide) (by decide) rfl) h
      rw [if_neg c2] at h
      by_cases c3 : tkT E p = ⟨#[75]⟩
      · rw [if_pos c3] at h
        exact agR (by omega) h
      rw [if_neg c3] at h
      by_cases c4 : tkT E p = ⟨#[77]⟩
      · rw [if_pos c4] at h
        exact agR (by omega) h
      rw [if_neg c4] at h
      by_cases c5 : tkT E p = ⟨#[83]⟩
      · rw [if_pos c5] at h
        exact agR (by omega) h
      rw [if_neg c5] at h
      by_cases c6 : tkT E p = ⟨#[66]⟩
      · rw [if_pos c6] at h
        obtain ⟨a, s1, h1, h2⟩ := nbind_ok (expectT_ok h)
        obtain ⟨ha, _⟩ := name_ok h1
        have ha4 : a < E.A.length := by simpa using ha
        obtain ⟨c, p2, hc, h3⟩ := barR h2
        exact binI hc rfl rfl (fldX_agent hE (by omega) ha4) h3
      rw [if_neg c6] at h
      by_cases c7 : tkT E p = ⟨#[69]⟩
      · rw [if_pos c7] at h
        exact grR (by omega) h
      rw [if_neg c7] at h
      by_cases c8 : tkT E p = ⟨#[68]⟩
      · rw [if_pos c8] at h
        exact grR (by omega) h
      rw [if_neg c8] at h
      by_cases c9 : tkT E p = ⟨#[67]⟩
      · rw [if_pos c9] at h
        obtain ⟨a, s1, h1, h2⟩ := nbind_ok (expectT_ok h)
        obtain ⟨ha, _⟩ := name_ok h1
        have ha4 : a < E.A.length := by simpa using ha
        obtain ⟨g, s2, h3, h4⟩ := nbind_ok h2
        obtain ⟨g1, g2, _⟩ := agents_ok _ _ _ _ _ (Nat.two_pow_pos a) (Nat.pow_lt_pow_right (by decide) ha4) h3
        obtain ⟨c, p2, hc, h5⟩ := barR h4
        exact binI hc rfl rfl (fldX_group hE (by omega) g1 g2) h5
      rw [if_neg c9] at h
      by_cases c10 : tkT E p = ⟨#[91]⟩
      · rw [if_pos c10] at h
        split at h
        · obtain ⟨c, p2, h1, h2⟩ := tbind_ok h
          exact binI (ih .formula _ _ _ trivial h1) rfl rfl (okX_plain (by decide) (by decide) rfl) h2
        · obtain ⟨a, s1, h1, h2⟩ := nbind_ok h
          obtain ⟨ha, _⟩ := name_ok h1
          have ha8 : a < E.X.length := by simpa using ha
          obtain ⟨e, s2, h3, h4⟩ := nbind_ok (expectT_ok h2)
          obtain ⟨he, _⟩ := number_ok h3
          exact unI rfl rfl (fldX_num hE he (Or.inr ⟨rfl, ha8⟩)) (expectT_ok h4)
      rw [if_neg c10] at h
      by_cases c11 : tkT E p = ⟨#[116, 114, 117, 101]⟩
      · rw [if_pos c11] at h
        exact one1 (TOX.leaf (n := nd1 1) rfl (okX_plain (by decide) (by decide) rfl) rfl) h
      rw [if_neg c11] at h
      by_cases c12 : tkT E p = ⟨#[102, 97, 108, 115, 101]⟩
      · rw [if_pos c12] at h
        exact one1 (TOX.leaf (n := nd1 2) rfl (okX_plain (by decide) (by decide) rfl) rfl) h
      rw [if_neg c12] at h
      by_cases c13 : tkT E p = ⟨#[40]⟩
      · rw [if_pos c13] at h
        obtain ⟨x, p1, h1, h2⟩ := tbind_ok h
        exact one1 (ih .formula _ _ _ trivial h1) (expectT_ok h2)
      · rw [if_neg c13] at h
        obtain ⟨a, s1, h1, h2⟩ := nbind_ok h
        obtain ⟨ha, _⟩ := name_ok h1
        have ha8 : a < E.F.length := by simpa using ha
        exact one1 (TOX.leaf (n := ⟨3, a, 0, 0, 0, 0⟩) rfl (fldX_num hE (e := 0) (by decide) (Or.inl ⟨rfl, rfl, ha8⟩)) rfl) h2
/-- what was read is a canonical list within the signature -/
theorem parse_named {A F X : List ByteArray} {t : ByteArray} (h : (parseV A F X t).err = 0) :
    sigErr A F X = 0 ∧ fErr (parseV A F X t).nodes = 0 ∧ compF (parseV A F X t).nodes = (parseV A F X t).nodes ∧ namedB A F X (parseV A F X t).nodes = true := by
  obtain ⟨hs, _, _, tr, ⟨n, hr⟩, hn, hl, hok⟩ := parseV_ok h
  have hsE : ShortE ⟨A, F, X, (tokV t).words⟩ := ⟨(sigErr_ok hs).1, (sigErr_ok hs).2.1, (sigErr_ok hs).2.2.1⟩
  obtain ⟨h1, h2, _, _⟩ := tok_formula hok hl
  have hx : TOX ⟨A, F, X, (tokV t).words⟩ tr := runT_okX hsE n .formula 0 _ tr trivial hr
  have hall : ∀ m ∈ canT tr, okX ⟨A, F, X, (tokV t).words⟩ m := fun m hm => finT_all (P := okX ⟨A, F, X, (tokV t).words⟩) tr hx.1 hx.2 (fun n hn => absurd hn (by simp)) m hm
  rw [hn]
  refine ⟨hs, h1, h2, ?_⟩
  unfold namedB
  rw [fits_tok hok hl (Nat.le_trans hsE.a (by decide)) (Nat.le_trans (sigErr_ok hs).2.1 (by decide)), Bool.true_and, h2, List.all_eq_true]
  exact fun m hm => decide_eq_true (hall m hm).2
end Go.Proofs.YtenbhalnpiahaaaGreatDoor
/- Layer 7 as plain mathematics: a text that is read as a formula has at least as many parentheses as the formula's own text. -/
namespace Go.Proofs.YtenbhalnpiahaaaGreatDoor
open Go.RowKit Go.Proofs.Ws Go.Maps
end Go.Proofs.YtenbhalnpiahaaaGreatDoor
/- Layer 7 as plain mathematics: no parentheses can be left out. -/
namespace Go.Proofs.Ws
open Go
end Go.Proofs.Ws
namespace Go.Proofs.YtenbhalnpiahaaaGreatDoor
open Go.RowKit Go.Proofs.Ws Go.Maps
end Go.Proofs.YtenbhalnpiahaaaGreatDoor
/- Layer 7 as plain mathematics: the length of the text of a conjunction of a formula with itself. -/
namespace Go.Proofs.YtenbhalnpiahaaaGreatDoor
open Go.RowKit Go.Proofs.Ws Go.Maps
theorem encB_range (r l : Nat) (t : List UInt8) : t.length ≤ (encB r l t).length ∧ (encB r l t).length ≤ t.length + 2 := by
  unfold encB
  split
  · simp; omega
  · exact ⟨Nat.le_refl _, by omega⟩
theorem and_len (A F X : List ByteArray) (t : Tr) : 2 * (textP A F X t).length + 3 ≤ (textP A F X (.bin (nd1 5) t t)).length ∧ (textP A F X (.bin (nd1 5) t t)).length ≤ 2 * (textP A F X t).length + 7 := by
  have e : textP A F X (.bin (nd1 5) t t) = encB 4 (levT t) (textP A F X t) ++ 32 :: ([38] ++ 32 :: encB 5 (levT t) (textP A F X t)) := rfl
  have h1 := encB_range 4 (levT t) (textP A F X t)
  have h2 := encB_range 5 (levT t) (textP A F X t)
  rw [e]
  simp only [List.length_append, List.length_cons, List.length_nil]
  omega
theorem text_pos {A F X : List ByteArray} {t : Tr} (hN : NmT A F X) (h : PrT A.length F.length X.length t) : 0 < (textP A F X t).length := by
  have tok : ∀ {w : List UInt8}, IsTok w → 0 < w.length := fun {w} h => by obtain ⟨c, r, rfl, _⟩ := h; simp
  cases h with
  | tt => exact (by decide : 0 < 4)
  | ff => exact (by decide : 0 < 5)
  | fact hi => exact tok (hN.f _ hi)
  | @plain op a h ha =>
    rw [textP_un, List.length_append]
    have : 0 < (headB A X (nd1 op)).length := by rcases h with rfl | rfl | rfl <;> (unfold headB nd1; simp)
    omega
  | @agent op i a h hi ha =>
    rw [textP_un, List.length_append]
    have : 0 < (headB A X ⟨op, i, 0, 0, 0, 0⟩).length := by rcases h with rfl | rfl | rfl <;> (unfold headB; simp)
    omega
  | @group op g a h h0 hg ha =>
    rw [textP_un, List.length_append]
    have : 0 < (headB A X ⟨op, 0, 0, g, 0, 0⟩).length := by rcases h with rfl | rfl <;> (unfold headB; simp)
    omega
  | @act i e a hi he ha =>
    rw [textP_un, List.length_append]
    have : 0 < (headB A X ⟨17, i, e, 0, 0, 0⟩).length := by unfold headB; simp
    omega
  | @mid op a b h ha hb =>
    have hne : op ≠ 16 ∧ op ≠ 14 ∧ op ≠ 13 := by rcases h with rfl | rfl | rfl | rfl | rfl | rfl <;> decide
    rw [textP_bin, if_neg (show ¬ (nd1 op).op = 16 from hne.1), if_neg (show ¬ (nd1 op).op = 14 from hne.2.1), if_neg (show ¬ (nd1 op).op = 13 from hne.2.2)]
    simp only [List.length_append, List.length_cons]
    omega
  | @announce a b ha hb =>
    rw [textP_bin, if_pos (show (nd1 16).op = 16 from rfl)]
    simp
  | @belief i a b hi ha hb =>
    rw [textP_bin, if_neg (show ¬ ((14 : Int) = 16) by decide), if_pos (show (14 : Int) = 14 from rfl)]
    simp
  | @common g a b h0 hg ha hb =>
    rw [textP_bin, if_neg (show ¬ ((13 : Int) = 16) by decide), if_neg (show ¬ ((13 : Int) = 14) by decide), if_pos (show (13 : Int) = 13 from rfl)]
    simp
end Go.Proofs.YtenbhalnpiahaaaGreatDoor
