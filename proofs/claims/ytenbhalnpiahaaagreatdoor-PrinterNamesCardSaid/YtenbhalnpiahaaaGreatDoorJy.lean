/- Layer 6: texts joined: Zh Zi Zj Zk Zl. -/
import Derived.Test.YtenbhalnpiahaaaGreatDoorJm
import Derived.Test.YtenbhalnpiahaaaGreatDoorJw
import Derived.Test.YtenbhalnpiahaaaGreatDoorJx
/- Layer 7 as plain mathematics: formulas have the same text exactly if they are equal. -/
namespace Go.Proofs.YtenbhalnpiahaaaGreatDoor
open Go.RowKit Go.Proofs.Ws Go.Maps
theorem print_same {A F X : List ByteArray} {f g : List Nd} (hf : fErr f = 0) (hg : fErr g = 0) (h : compF f = compF g) : printV A F X f = printV A F X g := by
  have tf := compF_tree hf
  have tg := compF_tree hg
  have nf : f.length ≠ 0 := by simpa using (fErr_ok hf).1
  have ng : g.length ≠ 0 := by simpa using (fErr_ok hg).1
  have of_ : trOk (treeAt f (f.length - 1)) := treeAt_ok (fErr_ops hf) _ _ (Nat.lt_succ_self _) (by omega)
  have og : trOk (treeAt g (g.length - 1)) := treeAt_ok (fErr_ops hg) _ _ (Nat.lt_succ_self _) (by omega)
  have he : treeAt f (f.length - 1) = treeAt g (g.length - 1) := by rw [← canT_tree of_, ← canT_tree og, ← tf, ← tg, h]
  have hn : namedB A F X f = namedB A F X g := by unfold namedB fitsF; rw [h, hf, hg]
  unfold printV
  rw [hf, hg, hn, he]
/-- two formulas that are printed: equal texts, equal formulas, and the other way round -/
theorem print_apart {A F X : List ByteArray} {f g : List Nd} (hf : (printV A F X f).2 = 0) (hg : (printV A F X g).2 = 0) : (printV A F X f).1 = (printV A F X g).1 ↔ compF f = compF g := by
  have fe : ∀ {f : List Nd}, (printV A F X f).2 = 0 → fErr f = 0 := fun {f} h => by
    unfold printV at h
    by_cases hs : sigErr A F X = 0
    · rw [if_neg (by rw [hs]; decide)] at h
      by_cases hf : fErr f = 0
      · exact hf
      · rw [if_pos hf] at h; exact absurd h hf
    · rw [if_pos hs] at h; exact absurd h hs
  constructor
  · intro h
    have h1 := (print_back hf).1
    have h2 := (print_back hg).1
    rw [h, h2] at h1
    exact (congrArg PV.nodes h1).symm
  · intro h
    rw [print_same (fe hf) (fe hg) h]
end Go.Proofs.YtenbhalnpiahaaaGreatDoor
/- Layer 7 as plain mathematics: a tree that is read has all its names in the signature, those of action models too; what was read can be printed. -/
namespace Go.Proofs.YtenbhalnpiahaaaGreatDoor
open Go.RowKit Go.Proofs.Ws Go.Maps
theorem okX_plain {E : PEnv} {op : Int} (h : fldOk ⟨op, 0, 0, 0, 0, 0⟩) (h3 : op ≠ 3) (ha : hasAgent op = false) (h17 : op ≠ 17 := by decide) : okX E ⟨op, 0, 0, 0, 0, 0⟩ := ⟨okE_plain h h3 ha, fun e => absurd e h17⟩
theorem fldX_agent {E : PEnv} (hE : ShortE E) {op : Int} (ho : op = 9 ∨ op = 10 ∨ op = 14 ∨ op = 15) {a : Nat} (h : a < E.A.length) : okX E ⟨op, a, 0, 0, 0, 0⟩ := ⟨fld_agent hE ho h, fun e => by dsimp only at e; omega⟩
theorem fldX_group {E : PEnv} (hE : ShortE E) {op : Int} (ho : op = 11 ∨ op = 12 ∨ op = 13) {g : Nat} (h1 : 1 ≤ g) (h : g < 2 ^ E.A.length) : okX E ⟨op, 0, 0, g, 0, 0⟩ := ⟨fld_group hE ho h1 h, fun e => by dsimp only at e; omega⟩
theorem fldX_num {E : PEnv} (hE : ShortE E) {op : Int} {a e : Nat} (he : e < 8) (ho : (op = 3 ∧ e = 0 ∧ a < E.F.length) ∨ (op = 17 ∧ a < E.X.length)) : okX E ⟨op, a, e, 0, 0, 0⟩ := ⟨fld_num hE he ho, fun h => by
  dsimp only at h ⊢
  rcases ho with ⟨h1, _, _⟩ | ⟨_, h2⟩
  · omega
  · omega⟩
def TOX (E : PEnv) (t : Tr) : Prop := trOk t ∧ trAll (okX E) t
theorem TOX.leaf {E : PEnv} {n : Nd} (hb : bare n = n) (hf : okX E n) (hx : usesX n.op = false) : TOX E (.leaf n) := by
  have hy : usesY n.op = false := by
    cases h : usesY n.op with
    | false => rfl
    | true => have := usesY_X h; rw [hx] at this; cases this
  exact ⟨⟨hx, hy, hb⟩, hf⟩
theorem TOX.un {E : PEnv} {n : Nd} {t : Tr} (ht : TOX E t) (hb : bare n = n) (hf : okX E n) (hx : usesX n.op = true) (hy : usesY n.op = false) : TOX E (.un n t) := ⟨⟨hx, hy, hb, ht.1⟩, ⟨hf, ht.2⟩⟩
theorem TOX.bin {E : PEnv} {n : Nd} {t t2 : Tr} (ht : TOX E t) (ht2 : TOX E t2) (hb : bare n = n) (hf : okX E n) (hx : usesX n.op = true) (hy : usesY n.op = true) : TOX E (.bin n t t2) := ⟨⟨hx, hy, hb, ht.1, ht2.1⟩, ⟨hf, ht.2, ht2.2⟩⟩
/-- the accumulator of a loop -/
def TRule.goodX (E : PEnv) : TRule → Prop
  | .iffL x => TOX E x
  | .orL x => TOX E x
  | .andL x => TOX E x
  | _ => True
set_option maxHeartbeats 2000000 in
theorem runT_okX {E : PEnv} (hE : ShortE E) : ∀ (n : Nat) (rule : TRule) (p p' : Nat) (t : Tr), TRule.goodX E rule → Ws.runT E n rule p = some (.ok t p') → TOX E t := by
  intro n
  induction n with
  | zero => intro rule p p' t _ h; cases h
  | succ n ih =>
    intro rule p p' t hg h
    have loop1 : ∀ {sg : ByteArray} {op : Int} {x : Tr} {r : TRule} {k : Tr → TRule} (_ : TRule.goodX E r) (_ : ∀ a, TOX E a → TRule.goodX E (k a)) (_ : okX E (nd1 op)) (_ : usesX op = true) (_ : usesY op = true), TOX E x →
        (if tkT E p = sg then tbind (Ws.runT E n r (p + 1)) fun y p => Ws.runT E n (k (.bin (nd1 op) x y)) p else some (.ok x p)) = some (.ok t p') → TOX E t := by
      intro sg op x r k hr hk hf hux huy hx h
      split at h
      · obtain ⟨y, p1, h1, h2⟩ := tbind_ok h
        exact ih _ _ _ _ (hk _ (TOX.bin (n := nd1 op) hx (ih _ _ _ _ hr h1) rfl hf hux huy)) h2
      · injection h with h
        injection h with h3 h4
        rw [← h3]
        exact hx
    have two1 : ∀ {op : Int} {x : Tr} {r : TRule} {p1 : Nat} (_ : TRule.goodX E r) (_ : okX E (nd1 op)) (_ : usesX op = true) (_ : usesY op = true), TOX E x →
        (tbind (Ws.runT E n r p1) fun y p => some (.ok (.bin (nd1 op) x y) p)) = some (.ok t p') → TOX E t := by
      intro op x r p1 hr hf hux huy hx h
      obtain ⟨y, p2, h1, h2⟩ := tbind_ok h
      injection h2 with h2
      injection h2 with h3 h4
      rw [← h3]
      exact TOX.bin (n := nd1 op) hx (ih _ _ _ _ hr h1) rfl hf hux huy
    have one1 : ∀ {x : Tr} {p1 : Nat}, TOX E x → (some (.ok x p1) : Option TRes) = some (.ok t p') → TOX E t := by
      intro x p1 hx h
      injection h with h
      injection h with h3 h4
      rw [← h3]
      exact hx
    cases rule with
    | formula =>
      unfold Ws.runT at h
      obtain ⟨x, s1, h1, h2⟩ := tbind_ok h
      exact ih (.iffL x) _ _ _ (ih .implies _ _ _ trivial h1) h2
    | or =>
      unfold Ws.runT at h
      obtain ⟨x, s1, h1, h2⟩ := tbind_ok h
      exact ih (.orL x) _ _ _ (ih .and _ _ _ trivial h1) h2
    | and =>
      unfold Ws.runT at h
      obtain ⟨x, s1, h1, h2⟩ := tbind_ok h
      exact ih (.andL x) _ _ _ (ih .pre _ _ _ trivial h1) h2
    | iffL x => unfold Ws.runT at h; exact loop1 (r := .implies) (k := .iffL) trivial (fun _ h => h) (okX_plain (by decide) (by decide) rfl) rfl rfl hg h
    | orL x => unfold Ws.runT at h; exact loop1 (r := .and) (k := .orL) trivial (fun _ h => h) (okX_plain (by decide) (by decide) rfl) rfl rfl hg h
    | andL x => unfold Ws.runT at h; exact loop1 (r := .pre) (k := .andL) trivial (fun _ h => h) (okX_plain (by decide) (by decide) rfl) rfl rfl hg h
    | implies =>
      unfold Ws.runT at h
      obtain ⟨x, s1, h1, h2⟩ := tbind_ok h
      have hx := ih .time _ _ _ trivial h1
      split at h2
      · exact two1 (r := .implies) trivial (okX_plain (by decide) (by decide) rfl) rfl rfl hx h2
      · exact one1 hx h2
    | time =>
      unfold Ws.runT at h
      obtain ⟨x, s1, h1, h2⟩ := tbind_ok h
      have hx := ih .or _ _ _ trivial h1
      split at h2
      · exact two1 (r := .time) trivial (okX_plain (by decide) (by decide) rfl) rfl rfl hx h2
      · split at h2
        · exact two1 (r := .time) trivial (okX_plain (by decide) (by decide) rfl) rfl rfl hx h2
        · exact one1 hx h2
    | pre =>
      have unI : ∀ {op i e g : Int} {p1 : Nat}, usesX op = true → usesY op = false → okX E ⟨op, i, e, g, 0, 0⟩ →
          (tbind (Ws.runT E n .pre p1) fun x p => some (.ok (.un ⟨op, i, e, g, 0, 0⟩ x) p)) = some (.ok t p') → TOX E t := by
        intro op i e g p1 hux huy hf h
        obtain ⟨x, p2, h1, h2⟩ := tbind_ok h
        exact one1 (TOX.un (n := ⟨op, i, e, g, 0, 0⟩) (ih .pre _ _ _ trivial h1) rfl hf hux huy) h2
      have binI : ∀ {op i g : Int} {c : Tr} {p1 : Nat}, TOX E c → usesX op = true → usesY op = true → okX E ⟨op, i, 0, g, 0, 0⟩ →
          (expectT E ⟨#[93]⟩ p1 fun p => tbind (Ws.runT E n .pre p) fun x p => some (.ok (.bin ⟨op, i, 0, g, 0, 0⟩ c x) p)) = some (.ok t p') → TOX E t := by
        intro op i g c p1 hc hux huy hf h
        obtain ⟨x, p2, h1, h2⟩ := tbind_ok (expectT_ok h)
        exact one1 (TOX.bin (n := ⟨op, i, 0, g, 0, 0⟩) hc (ih .pre _ _ _ trivial h1) rfl hf hux huy) h2
      have agR : ∀ {op : Int}, (op = 9 ∨ op = 10 ∨ op = 15) →
          (expectT E ⟨#[91]⟩ (p + 1) fun p => nbind (some (nameP E 1 ⟨p, []⟩)) fun a p => expectT E ⟨#[93]⟩ p fun p => tbind (Ws.runT E n .pre p) fun x p => some (.ok (.un ⟨op, a, 0, 0, 0, 0⟩ x) p)) = some (.ok t p') → TOX E t := by
        intro op ho h
        obtain ⟨a, s1, h1, h2⟩ := nbind_ok (expectT_ok h)
        obtain ⟨ha, _⟩ := name_ok h1
        have ha4 : a < E.A.length := by simpa using ha
        refine unI ?_ ?_ (fldX_agent hE (by omega) ha4) (expectT_ok h2)
        · rcases ho with rfl | rfl | rfl <;> rfl
        · rcases ho with rfl | rfl | rfl <;> rfl
      have grR : ∀ {op : Int}, (op = 11 ∨ op = 12) →
          (expectT E ⟨#[91]⟩ (p + 1) fun p => nbind (some (nameP E 1 ⟨p, []⟩)) fun a p => nbind (agentsL E (E.ws.length + 1) (2 ^ a) ⟨p, []⟩) fun g p => expectT E ⟨#[93]⟩ p fun p => tbind (Ws.runT E n .pre p) fun x p => some (.ok (.un ⟨op, 0, 0, g, 0, 0⟩ x) p)) = some (.ok t p') → TOX E t := by
        intro op ho h
        obtain ⟨a, s1, h1, h2⟩ := nbind_ok (expectT_ok h)
        obtain ⟨ha, _⟩ := name_ok h1
        have ha4 : a < E.A.length := by simpa using ha
        obtain ⟨g, s2, h3, h4⟩ := nbind_ok h2
        obtain ⟨g1, g2, _⟩ := agents_ok _ _ _ _ _ (Nat.two_pow_pos a) (Nat.pow_lt_pow_right (by decide) ha4) h3
        refine unI ?_ ?_ (fldX_group hE (by omega) g1 g2) (expectT_ok h4)
        · rcases ho with rfl | rfl <;> rfl
        · rcases ho with rfl | rfl <;> rfl
      have barR : ∀ {p1 : Nat} {k : Tr → Nat → Option TRes}, (if tkT E p1 = ⟨#[124]⟩ then tbind (Ws.runT E n .formula (p1 + 1)) k else k (.leaf (nd1 1)) p1) = some (.ok t p') →
          ∃ c p2, TOX E c ∧ k c p2 = some (.ok t p') := by
        intro p1 k h
        split at h
        · obtain ⟨c, p2, h1, h2⟩ := tbind_ok h
          exact ⟨c, p2, ih .formula _ _ _ trivial h1, h2⟩
        · exact ⟨_, p1, TOX.leaf (n := nd1 1) rfl (okX_plain (by decide) (by decide) rfl) rfl, h⟩
      unfold Ws.runT at h
      dsimp only at h
      by_cases c0 : tkT E p = ⟨#[126]⟩
      · rw [if_pos c0] at h
        exact unI (op := 4) rfl rfl (okX_plain (by decide) (by decide) rfl) h
      rw [if_neg c0] at h
      by_cases c1 : tkT E p = ⟨#[110, 101, 120, 116]⟩
      · rw [if_pos c1] at h
        exact unI (op := 18) rfl rfl (okX_plain (by decide) (by decide) rfl) h
      rw [if_neg c1] at h
      by_cases c2 : tkT E p = ⟨#[112, 114, 101, 118]⟩
      · rw [if_pos c2] at h
        exact unI (op := 20) rfl rfl (okX_plain (by decide) (by decide) rfl) h
      rw [if_neg c2] at h
      by_cases c3 : tkT E p = ⟨#[75]⟩
      · rw [if_pos c3] at h
        exact agR (by omega) h
      rw [if_neg c3] at h
      by_cases c4 : tkT E p = ⟨#[77]⟩
      · rw [if_pos c4] at h
        exact agR (by omega) h
      rw [if_neg c4] at h
      by_cases c5 : tkT E p = ⟨#[83]⟩
      · rw [if_pos c5] at h
        exact agR (by omega) h
      rw [if_neg c5] at h
      by_cases c6 : tkT E p = ⟨#[66]⟩
      · rw [if_pos c6] at h
        obtain ⟨a, s1, h1, h2⟩ := nbind_ok (expectT_ok h)
        obtain ⟨ha, _⟩ := name_ok h1
        have ha4 : a < E.A.length := by simpa using ha
        obtain ⟨c, p2, hc, h3⟩ := barR h2
        exact binI hc rfl rfl (fldX_agent hE (by omega) ha4) h3
      rw [if_neg c6] at h
      by_cases c7 : tkT E p = ⟨#[69]⟩
      · rw [if_pos c7] at h
        exact grR (by omega) h
      rw [if_neg c7] at h
      by_cases c8 : tkT E p = ⟨#[68]⟩
      · rw [if_pos c8] at h
        exact grR (by omega) h
      rw [if_neg c8] at h
      by_cases c9 : tkT E p = ⟨#[67]⟩
      · rw [if_pos c9] at h
        obtain ⟨a, s1, h1, h2⟩ := nbind_ok (expectT_ok h)
        obtain ⟨ha, _⟩ := name_ok h1
        have ha4 : a < E.A.length := by simpa using ha
        obtain ⟨g, s2, h3, h4⟩ := nbind_ok h2
        obtain ⟨g1, g2, _⟩ := agents_ok _ _ _ _ _ (Nat.two_pow_pos a) (Nat.pow_lt_pow_right (by decide) ha4) h3
        obtain ⟨c, p2, hc, h5⟩ := barR h4
        exact binI hc rfl rfl (fldX_group hE (by omega) g1 g2) h5
      rw [if_neg c9] at h
      by_cases c10 : tkT E p = ⟨#[91]⟩
      · rw [if_pos c10] at h
        split at h
        · obtain ⟨c, p2, h1, h2⟩ := tbind_ok h
          exact binI (ih .formula _ _ _ trivial h1) rfl rfl (okX_plain (by decide) (by decide) rfl) h2
        · obtain ⟨a, s1, h1, h2⟩ := nbind_ok h
          obtain ⟨ha, _⟩ := name_ok h1
          have ha8 : a < E.X.length := by simpa using ha
          obtain ⟨e, s2, h3, h4⟩ := nbind_ok (expectT_ok h2)
          obtain ⟨he, _⟩ := number_ok h3
          exact unI rfl rfl (fldX_num hE he (Or.inr ⟨rfl, ha8⟩)) (expectT_ok h4)
      rw [if_neg c10] at h
      by_cases c11 : tkT E p = ⟨#[116, 114, 117, 101]⟩
      · rw [if_pos c11] at h
        exact one1 (TOX.leaf (n := nd1 1) rfl (okX_plain (by decide) (by decide) rfl) rfl) h
      rw [if_neg c11] at h
      by_cases c12 : tkT E p = ⟨#[102, 97, 108, 115, 101]⟩
      · rw [if_pos c12] at h
        exact one1 (TOX.leaf (n := nd1 2) rfl (okX_plain (by decide) (by decide) rfl) rfl) h
      rw [if_neg c12] at h
      by_cases c13 : tkT E p = ⟨#[40]⟩
      · rw [if_pos c13] at h
        obtain ⟨x, p1, h1, h2⟩ := tbind_ok h
        exact one1 (ih .formula _ _ _ trivial h1) (expectT_ok h2)
      · rw [if_neg c13] at h
        obtain ⟨a, s1, h1, h2⟩ := nbind_ok h
        obtain ⟨ha, _⟩ := name_ok h1
        have ha8 : a < E.F.length := by simpa using ha
        exact one1 (TOX.leaf (n := ⟨3, a, 0, 0, 0, 0⟩) rfl (fldX_num hE (e := 0) (by decide) (Or.inl ⟨rfl, rfl, ha8⟩)) rfl) h2
/-- what was read is a canonical list within the signature -/
theorem parse_named {A F X : List ByteArray} {t : ByteArray} (h : (parseV A F X t).err = 0) :
    sigErr A F X = 0 ∧ fErr (parseV A F X t).nodes = 0 ∧ compF (parseV A F X t).nodes = (parseV A F X t).nodes ∧ namedB A F X (parseV A F X t).nodes = true := by
  obtain ⟨hs, _, _, tr, ⟨n, hr⟩, hn, hl, hok⟩ := parseV_ok h
  have hsE : ShortE ⟨A, F, X, (tokV t).words⟩ := ⟨(sigErr_ok hs).1, (sigErr_ok hs).2.1, (sigErr_ok hs).2.2.1⟩
  obtain ⟨h1, h2, _, _⟩ := tok_formula hok hl
  have hx : TOX ⟨A, F, X, (tokV t).words⟩ tr := runT_okX hsE n .formula 0 _ tr trivial hr
  have hall : ∀ m ∈ canT tr, okX ⟨A, F, X, (tokV t).words⟩ m := fun m hm => finT_all (P := okX ⟨A, F, X, (tokV t).words⟩) tr hx.1 hx.2 (fun n hn => absurd hn (by simp)) m hm
  rw [hn]
  refine ⟨hs, h1, h2, ?_⟩
  unfold namedB
  rw [fits_tok hok hl (Nat.le_trans hsE.a (by decide)) (Nat.le_trans (sigErr_ok hs).2.1 (by decide)), Bool.true_and, h2, List.all_eq_true]
  exact fun m hm => decide_eq_true (hall m hm).2
/-- what was read is printed, or its text is too long; the text is read as the same list -/
theorem print_read {A F X : List ByteArray} {t : ByteArray} (h : (parseV A F X t).err = 0) :
    (printV A F X (parseV A F X t).nodes).2 = 8 ∨ ((printV A F X (parseV A F X t).nodes).2 = 0 ∧ parseV A F X (printV A F X (parseV A F X t).nodes).1 = ⟨(parseV A F X t).nodes, 0, 0⟩) := by
  obtain ⟨hs, hf, hc, hn⟩ := parse_named h
  have hv : (printV A F X (parseV A F X t).nodes).2 = 8 ∨ (printV A F X (parseV A F X t).nodes).2 = 0 := by
    unfold printV
    rw [if_neg (by rw [hs]; decide), if_neg (by rw [hf]; decide), hn, if_neg (by decide)]
    split
    · exact .inl rfl
    · exact .inr rfl
  rcases hv with hv | hv
  · exact .inl hv
  · refine .inr ⟨hv, ?_⟩
    have := (print_back hv).1
    rw [hc] at this
    exact this
end Go.Proofs.YtenbhalnpiahaaaGreatDoor
/- Layer 7 as plain mathematics: a text that is read as a formula has at least as many parentheses as the formula's own text. -/
namespace Go.Proofs.YtenbhalnpiahaaaGreatDoor
open Go.RowKit Go.Proofs.Ws Go.Maps
/-- the parentheses that a formula's text needs -/
def mpT : Tr → Nat
  | .leaf _ => 0
  | .un _ a => (if levT a < 5 then 1 else 0) + mpT a
  | .bin n a b => if n.op = 16 ∨ n.op = 14 ∨ n.op = 13 then mpT a + ((if levT b < 5 then 1 else 0) + mpT b) else ((if levT a < leftN n.op then 1 else 0) + mpT a) + ((if levT b < rightN n.op then 1 else 0) + mpT b)
def mpE (r : Nat) (t : Tr) : Nat := (if levT t < r then 1 else 0) + mpT t
theorem mpE_mono {r r' : Nat} (h : r ≤ r') (t : Tr) : mpE r t ≤ mpE r' t := by
  unfold mpE
  split
  · rw [if_pos (by omega)]; exact Nat.le_refl _
  · split <;> omega
theorem mpE_top (r : Nat) (t : Tr) : mpE r t ≤ 1 + mpT t := by unfold mpE; split <;> omega
theorem mpE_zero (t : Tr) : mpE 0 t = mpT t := by unfold mpE; rw [if_neg (Nat.not_lt_zero _)]; omega
/-- the parentheses before a place -/
def isP (w : ByteArray) : Bool := decide (w = ⟨#[40]⟩)
def parP (E : PEnv) (p : Nat) : Nat := (E.ws.take p).countP isP
theorem parP_mono (E : PEnv) {p q : Nat} (h : p ≤ q) : parP E p ≤ parP E q := by
  have e : E.ws.take p = (E.ws.take q).take p := by rw [List.take_take, Nat.min_eq_left h]
  unfold parP
  rw [e]
  exact (List.take_sublist p (E.ws.take q)).countP_le
theorem parP_open (E : PEnv) {p : Nat} (h : tkT E p = ⟨#[40]⟩) : parP E (p + 1) = parP E p + 1 := by
  have hp : p < E.ws.length := by
    refine Decidable.byContradiction (fun hn => ?_)
    unfold tkT at h
    rw [List.getD_eq_getElem?_getD, List.getElem?_eq_none (by omega)] at h
    exact absurd h (by decide)
  have he : E.ws[p] = ⟨#[40]⟩ := by
    unfold tkT at h
    rw [List.getD_eq_getElem?_getD, List.getElem?_eq_getElem hp] at h
    exact h
  unfold parP
  rw [List.take_succ_eq_append_getElem hp, List.countP_append, he]
  rfl
def loP : TRule → Nat
  | .formula => 0
  | .iffL _ => 0
  | .implies => 1
  | .time => 2
  | .or => 3
  | .orL _ => 3
  | .and => 4
  | .andL _ => 4
  | .pre => 5
def accP : TRule → Nat
  | .iffL x => mpE 0 x
  | .orL x => mpE 3 x
  | .andL x => mpE 4 x
  | _ => 0
theorem mid_mp {op : Int} (h : MidN op) (r : Nat) (hr : r ≤ levN op) (x y : Tr) : mpE r (.bin (nd1 op) x y) = mpE (leftN op) x + mpE (rightN op) y := by
  have hne : ¬ ((nd1 op).op = 16 ∨ (nd1 op).op = 14 ∨ (nd1 op).op = 13) := by rcases h with rfl | rfl | rfl | rfl | rfl | rfl <;> decide
  unfold mpE
  rw [if_neg (show ¬ levT (.bin (nd1 op) x y) < r from Nat.not_lt.2 hr)]
  show 0 + (if (nd1 op).op = 16 ∨ (nd1 op).op = 14 ∨ (nd1 op).op = 13 then _ else _) = _
  rw [if_neg hne, Nat.zero_add]
  rfl
theorem name_next {E : PEnv} {what a : Nat} {s0 s : PSt} (h : some (nameP E what s0) = some (.ok a s)) : s.next = s0.next + 1 := by
  injection h with h
  unfold nameP at h
  generalize (if what = 0 then E.F else if what = 1 then E.A else E.X) = L at h
  by_cases h1 : nameOk (tkP E s0) = false
  · rw [if_pos h1] at h; cases h
  · rw [if_neg h1] at h
    by_cases h2 : Lib.idxOfS L (tkP E s0) < 0
    · rw [if_pos h2] at h; cases h
    · rw [if_neg h2] at h
      injection h with _ h
      rw [← h]; rfl
theorem number_next {E : PEnv} {p a : Nat} {s : PSt} (h : some (numberP E ⟨p, []⟩) = some (.ok a s)) : s.next = p + 1 := by
  injection h with h
  unfold numberP at h
  split at h
  · cases h
  · split at h
    · cases h
    · injection h with _ h; rw [← h]; rfl
theorem agents_next {E : PEnv} : ∀ (n g : Nat) (s : PSt) (a : Nat) (s' : PSt), agentsL E n g s = some (.ok a s') → s.next ≤ s'.next := by
  intro n
  induction n with
  | zero => intro g s a s' h; cases h
  | succ n ih =>
    intro g s a s' h
    unfold agentsL at h
    split at h
    · match hn : nameP E 1 s.adv, h with
      | .err t e, h => cases h
      | .ok b s2, h =>
        have h2 : s2.next = s.next + 1 + 1 := name_next (what := 1) (congrArg some hn)
        change (if g.testBit b = true then _ else agentsL E n (g ||| 2 ^ b) s2) = _ at h
        split at h
        · cases h
        · have := ih _ _ _ _ h
          omega
    · injection h with h
      injection h with _ h
      rw [h]; exact Nat.le_refl _
set_option maxHeartbeats 2000000 in
theorem runT_par (E : PEnv) : ∀ (n : Nat) (rule : TRule) (p p' : Nat) (t : Tr), Ws.runT E n rule p = some (.ok t p') → p ≤ p' ∧ mpE (loP rule) t + parP E p ≤ parP E p' + accP rule := by
  intro n
  induction n with
  | zero => intro rule p p' t h; cases h
  | succ n ih =>
    intro rule p p' t h
    have up : ∀ q, parP E q ≤ parP E (q + 1) := fun q => parP_mono E (Nat.le_succ q)
    cases rule with
    | formula =>
      unfold Ws.runT at h
      obtain ⟨x, s1, h1, h2⟩ := tbind_ok h
      obtain ⟨a1, a2⟩ := ih .implies _ _ _ h1
      obtain ⟨b1, b2⟩ := ih (.iffL x) _ _ _ h2
      have := mpE_mono (show 0 ≤ 1 by decide) x
      unfold loP accP at *
      dsimp only at *
      exact ⟨by omega, by omega⟩
    | or =>
      unfold Ws.runT at h
      obtain ⟨x, s1, h1, h2⟩ := tbind_ok h
      obtain ⟨a1, a2⟩ := ih .and _ _ _ h1
      obtain ⟨b1, b2⟩ := ih (.orL x) _ _ _ h2
      have := mpE_mono (show 3 ≤ 4 by decide) x
      unfold loP accP at *
      dsimp only at *
      exact ⟨by omega, by omega⟩
    | and =>
      unfold Ws.runT at h
      obtain ⟨x, s1, h1, h2⟩ := tbind_ok h
      obtain ⟨a1, a2⟩ := ih .pre _ _ _ h1
      obtain ⟨b1, b2⟩ := ih (.andL x) _ _ _ h2
      have := mpE_mono (show 4 ≤ 5 by decide) x
      unfold loP accP at *
      dsimp only at *
      exact ⟨by omega, by omega⟩
    | iffL x =>
      unfold Ws.runT at h
      split at h
      · obtain ⟨y, s1, h1, h2⟩ := tbind_ok h
        obtain ⟨a1, a2⟩ := ih .implies _ _ _ h1
        obtain ⟨b1, b2⟩ := ih (.iffL (.bin (nd1 8) x y)) _ _ _ h2
        have e := mid_mp (op := 8) (by unfold MidN; decide) 0 (by decide) x y
        have e2 : mpE (leftN 8) x + mpE (rightN 8) y = mpE 0 x + mpE 1 y := rfl
        have := up p
        unfold loP accP at *
        dsimp only at *
        exact ⟨by omega, by omega⟩
      · injection h with h
        injection h with h3 h4
        rw [← h3, ← h4]
        exact ⟨Nat.le_refl _, Nat.le_of_eq (Nat.add_comm _ _)⟩
    | orL x =>
      unfold Ws.runT at h
      split at h
      · obtain ⟨y, s1, h1, h2⟩ := tbind_ok h
        obtain ⟨a1, a2⟩ := ih .and _ _ _ h1
        obtain ⟨b1, b2⟩ := ih (.orL (.bin (nd1 6) x y)) _ _ _ h2
        have e := mid_mp (op := 6) (by unfold MidN; decide) 3 (by decide) x y
        have e2 : mpE (leftN 6) x + mpE (rightN 6) y = mpE 3 x + mpE 4 y := rfl
        have := up p
        unfold loP accP at *
        dsimp only at *
        exact ⟨by omega, by omega⟩
      · injection h with h
        injection h with h3 h4
        rw [← h3, ← h4]
        exact ⟨Nat.le_refl _, Nat.le_of_eq (Nat.add_comm _ _)⟩
    | andL x =>
      unfold Ws.runT at h
      split at h
      · obtain ⟨y, s1, h1, h2⟩ := tbind_ok h
        obtain ⟨a1, a2⟩ := ih .pre _ _ _ h1
        obtain ⟨b1, b2⟩ := ih (.andL (.bin (nd1 5) x y)) _ _ _ h2
        have e := mid_mp (op := 5) (by unfold MidN; decide) 4 (by decide) x y
        have e2 : mpE (leftN 5) x + mpE (rightN 5) y = mpE 4 x + mpE 5 y := rfl
        have := up p
        unfold loP accP at *
        dsimp only at *
        exact ⟨by omega, by omega⟩
      · injection h with h
        injection h with h3 h4
        rw [← h3, ← h4]
        exact ⟨Nat.le_refl _, Nat.le_of_eq (Nat.add_comm _ _)⟩
    | implies =>
      unfold Ws.runT at h
      obtain ⟨x, s1, h1, h2⟩ := tbind_ok h
      obtain ⟨a1, a2⟩ := ih .time _ _ _ h1
      split at h2
      · obtain ⟨y, s2, h3, h4⟩ := tbind_ok h2
        obtain ⟨b1, b2⟩ := ih .implies _ _ _ h3
        injection h4 with h4
        injection h4 with h5 h6
        rw [← h5, ← h6]
        have e := mid_mp (op := 7) (by unfold MidN; decide) 1 (by decide) x y
        have e2 : mpE (leftN 7) x + mpE (rightN 7) y = mpE 2 x + mpE 1 y := rfl
        have := up s1
        unfold loP accP at *
        dsimp only at *
        exact ⟨by omega, by omega⟩
      · injection h2 with h2
        injection h2 with h5 h6
        rw [← h5, ← h6]
        have := mpE_mono (show 1 ≤ 2 by decide) x
        unfold loP accP at *
        dsimp only at *
        exact ⟨by omega, by omega⟩
    | time =>
      unfold Ws.runT at h
      obtain ⟨x, s1, h1, h2⟩ := tbind_ok h
      obtain ⟨a1, a2⟩ := ih .or _ _ _ h1
      split at h2
      · obtain ⟨y, s2, h3, h4⟩ := tbind_ok h2
        obtain ⟨b1, b2⟩ := ih .time _ _ _ h3
        injection h4 with h4
        injection h4 with h5 h6
        rw [← h5, ← h6]
        have e := mid_mp (op := 19) (by unfold MidN; decide) 2 (by decide) x y
        have e2 : mpE (leftN 19) x + mpE (rightN 19) y = mpE 3 x + mpE 2 y := rfl
        have := up s1
        unfold loP accP at *
        dsimp only at *
        exact ⟨by omega, by omega⟩
      · split at h2
        · obtain ⟨y, s2, h3, h4⟩ := tbind_ok h2
          obtain ⟨b1, b2⟩ := ih .time _ _ _ h3
          injection h4 with h4
          injection h4 with h5 h6
          rw [← h5, ← h6]
          have e := mid_mp (op := 21) (by unfold MidN; decide) 2 (by decide) x y
          have e2 : mpE (leftN 21) x + mpE (rightN 21) y = mpE 3 x + mpE 2 y := rfl
          have := up s1
          unfold loP accP at *
          dsimp only at *
          exact ⟨by omega, by omega⟩
        · injection h2 with h2
          injection h2 with h5 h6
          rw [← h5, ← h6]
          have := mpE_mono (show 2 ≤ 3 by decide) x
          unfold loP accP at *
          dsimp only at *
          exact ⟨by omega, by omega⟩
    | pre =>
      have fin : ∀ {x : Tr} {q : Nat}, p ≤ q → mpE 5 x + parP E p ≤ parP E q → (some (.ok x q) : Option TRes) = some (.ok t p') → p ≤ p' ∧ mpE (loP .pre) t + parP E p ≤ parP E p' + accP .pre := by
        intro x q h1 h2 h
        injection h with h
        injection h with h3 h4
        rw [← h3, ← h4]
        exact ⟨h1, by unfold loP accP; dsimp only; omega⟩
      have unI : ∀ {nd : Nd} {q : Nat}, levN nd.op = 5 → p ≤ q → (tbind (Ws.runT E n .pre q) fun x p => some (.ok (.un nd x) p)) = some (.ok t p') → p ≤ p' ∧ mpE (loP .pre) t + parP E p ≤ parP E p' + accP .pre := by
        intro nd q hl hq h
        obtain ⟨x, p2, h1, h2⟩ := tbind_ok h
        obtain ⟨a1, a2⟩ := ih .pre _ _ _ h1
        have hm := parP_mono E hq
        refine fin (by omega) ?_ h2
        have e : mpE 5 (.un nd x) = mpE 5 x := by
          show (if levT (.un nd x) < 5 then 1 else 0) + ((if levT x < 5 then 1 else 0) + mpT x) = (if levT x < 5 then 1 else 0) + mpT x
          rw [if_neg (show ¬ levT (.un nd x) < 5 from by show ¬ levN nd.op < 5; omega), Nat.zero_add]
        unfold loP accP at a2
        dsimp only at a2
        omega
      have binI : ∀ {nd : Nd} {c : Tr} {q : Nat}, levN nd.op = 5 → (nd.op = 16 ∨ nd.op = 14 ∨ nd.op = 13) → p ≤ q → mpT c + parP E p ≤ parP E q → (expectT E ⟨#[93]⟩ q fun p => tbind (Ws.runT E n .pre p) fun x p => some (.ok (.bin nd c x) p)) = some (.ok t p') → p ≤ p' ∧ mpE (loP .pre) t + parP E p ≤ parP E p' + accP .pre := by
        intro nd c q hl ho hq hc h
        obtain ⟨x, p2, h1, h2⟩ := tbind_ok (expectT_ok h)
        obtain ⟨a1, a2⟩ := ih .pre _ _ _ h1
        have hm := up q
        refine fin (by omega) ?_ h2
        have e : mpE 5 (.bin nd c x) = mpT c + mpE 5 x := by
          show (if levT (.bin nd c x) < 5 then 1 else 0) + (if nd.op = 16 ∨ nd.op = 14 ∨ nd.op = 13 then _ else _) = _
          rw [if_neg (show ¬ levT (.bin nd c x) < 5 from by show ¬ levN nd.op < 5; omega), Nat.zero_add, if_pos ho]
          rfl
        unfold loP accP at a2
        dsimp only at a2
        omega
      have agR : ∀ {op : Int}, levN op = 5 →
          (expectT E ⟨#[91]⟩ (p + 1) fun p => nbind (some (nameP E 1 ⟨p, []⟩)) fun a p => expectT E ⟨#[93]⟩ p fun p => tbind (Ws.runT E n .pre p) fun x p => some (.ok (.un ⟨op, a, 0, 0, 0, 0⟩ x) p)) = some (.ok t p') → p ≤ p' ∧ mpE (loP .pre) t + parP E p ≤ parP E p' + accP .pre := by
        intro op ho h
        obtain ⟨a, s1, h1, h2⟩ := nbind_ok (expectT_ok h)
        have := name_next h1
        dsimp only at this
        exact unI (nd := ⟨op, a, 0, 0, 0, 0⟩) ho (by omega) (expectT_ok h2)
      have grR : ∀ {op : Int}, levN op = 5 →
          (expectT E ⟨#[91]⟩ (p + 1) fun p => nbind (some (nameP E 1 ⟨p, []⟩)) fun a p => nbind (agentsL E (E.ws.length + 1) (2 ^ a) ⟨p, []⟩) fun g p => expectT E ⟨#[93]⟩ p fun p => tbind (Ws.runT E n .pre p) fun x p => some (.ok (.un ⟨op, 0, 0, g, 0, 0⟩ x) p)) = some (.ok t p') → p ≤ p' ∧ mpE (loP .pre) t + parP E p ≤ parP E p' + accP .pre := by
        intro op ho h
        obtain ⟨a, s1, h1, h2⟩ := nbind_ok (expectT_ok h)
        have := name_next h1
        dsimp only at this
        obtain ⟨g, s2, h3, h4⟩ := nbind_ok h2
        have := agents_next _ _ _ _ _ h3
        dsimp only at this
        exact unI (nd := ⟨op, 0, 0, g, 0, 0⟩) ho (by omega) (expectT_ok h4)
      have barR : ∀ {p1 : Nat} {k : Tr → Nat → Option TRes}, p ≤ p1 → (if tkT E p1 = ⟨#[124]⟩ then tbind (Ws.runT E n .formula (p1 + 1)) k else k (.leaf (nd1 1)) p1) = some (.ok t p') →
          ∃ c p2, p ≤ p2 ∧ mpT c + parP E p ≤ parP E p2 ∧ k c p2 = some (.ok t p') := by
        intro p1 k hp h
        have hm := parP_mono E hp
        split at h
        · obtain ⟨c, p2, h1, h2⟩ := tbind_ok h
          obtain ⟨a1, a2⟩ := ih .formula _ _ _ h1
          have := up p1
          have e := mpE_zero c
          unfold loP accP at a2
          dsimp only at a2
          exact ⟨c, p2, by omega, by omega, h2⟩
        · exact ⟨_, p1, hp, by show 0 + _ ≤ _; omega, h⟩
      unfold Ws.runT at h
      dsimp only at h
      by_cases c0 : tkT E p = ⟨#[126]⟩
      · rw [if_pos c0] at h
        exact unI rfl (show p ≤ p + 1 by omega) h
      rw [if_neg c0] at h
      by_cases c1 : tkT E p = ⟨#[110, 101, 120, 116]⟩
      · rw [if_pos c1] at h
        exact unI rfl (show p ≤ p + 1 by omega) h
      rw [if_neg c1] at h
      by_cases c2 : tkT E p = ⟨#[112, 114, 101, 118]⟩
      · rw [if_pos c2] at h
        exact unI rfl (show p ≤ p + 1 by omega) h
      rw [if_neg c2] at h
      by_cases c3 : tkT E p = ⟨#[75]⟩
      · rw [if_pos c3] at h
        exact agR rfl h
      rw [if_neg c3] at h
      by_cases c4 : tkT E p = ⟨#[77]⟩
      · rw [if_pos c4] at h
        exact agR rfl h
      rw [if_neg c4] at h
      by_cases c5 : tkT E p = ⟨#[83]⟩
      · rw [if_pos c5] at h
        exact agR rfl h
      rw [if_neg c5] at h
      by_cases c6 : tkT E p = ⟨#[66]⟩
      · rw [if_pos c6] at h
        obtain ⟨a, s1, h1, h2⟩ := nbind_ok (expectT_ok h)
        have := name_next h1
        dsimp only at this
        obtain ⟨c, p2, q1, q2, h3⟩ := barR (by omega) h2
        exact binI rfl (.inr (.inl rfl)) q1 q2 h3
      rw [if_neg c6] at h
      by_cases c7 : tkT E p = ⟨#[69]⟩
      · rw [if_pos c7] at h
        exact grR rfl h
      rw [if_neg c7] at h
      by_cases c8 : tkT E p = ⟨#[68]⟩
      · rw [if_pos c8] at h
        exact grR rfl h
      rw [if_neg c8] at h
      by_cases c9 : tkT E p = ⟨#[67]⟩
      · rw [if_pos c9] at h
        obtain ⟨a, s1, h1, h2⟩ := nbind_ok (expectT_ok h)
        have := name_next h1
        dsimp only at this
        obtain ⟨g, s2, h3, h4⟩ := nbind_ok h2
        have := agents_next _ _ _ _ _ h3
        dsimp only at this
        obtain ⟨c, p2, q1, q2, h5⟩ := barR (by omega) h4
        exact binI rfl (.inr (.inr rfl)) q1 q2 h5
      rw [if_neg c9] at h
      by_cases c10 : tkT E p = ⟨#[91]⟩
      · rw [if_pos c10] at h
        split at h
        · obtain ⟨c, p2, h1, h2⟩ := tbind_ok h
          obtain ⟨a1, a2⟩ := ih .formula _ _ _ h1
          have := parP_mono E (show p ≤ p + 1 + 1 by omega)
          have e := mpE_zero c
          unfold loP accP at a2
          dsimp only at a2
          exact binI rfl (.inl rfl) (by omega) (by omega) h2
        · obtain ⟨a, s1, h1, h2⟩ := nbind_ok h
          have := name_next h1
          dsimp only at this
          obtain ⟨b, s2, h3, h4⟩ := nbind_ok (expectT_ok h2)
          have := number_next h3
          exact unI rfl (by omega) (expectT_ok h4)
      rw [if_neg c10] at h
      by_cases c11 : tkT E p = ⟨#[116, 114, 117, 101]⟩
      · rw [if_pos c11] at h
        exact fin (show p ≤ p + 1 by omega) (by have := up p; show 0 + 0 + parP E p ≤ _; omega) h
      rw [if_neg c11] at h
      by_cases c12 : tkT E p = ⟨#[102, 97, 108, 115, 101]⟩
      · rw [if_pos c12] at h
        exact fin (show p ≤ p + 1 by omega) (by have := up p; show 0 + 0 + parP E p ≤ _; omega) h
      rw [if_neg c12] at h
      by_cases c13 : tkT E p = ⟨#[40]⟩
      · rw [if_pos c13] at h
        obtain ⟨x, p2, h1, h2⟩ := tbind_ok h
        obtain ⟨a1, a2⟩ := ih .formula _ _ _ h1
        have o1 := parP_open E c13
        have o2 := up p2
        have e := mpE_zero x
        have e2 := mpE_top 5 x
        unfold loP accP at a2
        dsimp only at a2
        exact fin (by omega) (by omega) (expectT_ok h2)
      rw [if_neg c13] at h
      obtain ⟨a, s1, h1, h2⟩ := nbind_ok h
      have e := name_next h1
      dsimp only at e
      exact fin (by omega) (by have := parP_mono E (show p ≤ s1.next by omega); show 0 + 0 + parP E p ≤ _; omega) h2
end Go.Proofs.YtenbhalnpiahaaaGreatDoor
/- Layer 7 as plain mathematics: no parentheses can be left out. -/
namespace Go.Proofs.Ws
open Go
theorem scan_mem (p : Nat → Bool) : ∀ l : List UInt8, ∀ d ∈ l.take (scanL p l), p d.toNat = true
  | [], d, h => by simp at h
  | c :: l, d, h => by
    have e : scanL p (c :: l) = if p c.toNat = true then scanL p l + 1 else 0 := rfl
    rw [e] at h
    by_cases hc : p c.toNat = true
    · rw [if_pos hc, List.take_succ_cons] at h
      rcases List.mem_cons.1 h with rfl | h
      · exact hc
      · exact scan_mem p l d h
    · rw [if_neg hc] at h; simp at h
theorem count_none {l : List UInt8} (h : ∀ d ∈ l, d ≠ 40) : l.count 40 = 0 := List.count_eq_zero.2 (fun hm => h 40 hm rfl)
/-- a token has a parenthesis exactly if it is one -/
theorem part_count (c : UInt8) (r : List UInt8) (h : partL (c :: r) ≠ 0) : ((c :: r).take (partL (c :: r))).count 40 = if (c :: r).take (partL (c :: r)) = [40] then 1 else 0 := by
  have key : ∀ l : List UInt8, (∀ d ∈ l, d ≠ 40) → l.count 40 = if l = [40] then 1 else 0 := fun l hl => by
    rw [count_none hl, if_neg]
    intro e
    exact hl 40 (by rw [e]; simp) rfl
  have e : partL (c :: r) = if letN c.toNat = true then scanL wordN (c :: r) else if digN c.toNat = true then scanL digN (c :: r) else if [60, 45, 62] <+: (c :: r) then 3 else if [45, 62] <+: (c :: r) then 2 else if c.toNat ∈ markL then 1 else 0 := rfl
  rw [e] at h ⊢
  by_cases h1 : letN c.toNat = true
  · rw [if_pos h1]
    exact key _ (fun d hd e2 => by have := scan_mem wordN _ d hd; rw [e2] at this; exact absurd this (by decide))
  rw [if_neg h1] at h ⊢
  by_cases h2 : digN c.toNat = true
  · rw [if_pos h2]
    exact key _ (fun d hd e2 => by have := scan_mem digN _ d hd; rw [e2] at this; exact absurd this (by decide))
  rw [if_neg h2] at h ⊢
  by_cases h3 : [60, 45, 62] <+: (c :: r)
  · rw [if_pos h3]
    obtain ⟨t, ht⟩ := h3
    rw [← ht]
    rfl
  rw [if_neg h3] at h ⊢
  by_cases h4 : [45, 62] <+: (c :: r)
  · rw [if_pos h4]
    obtain ⟨t, ht⟩ := h4
    rw [← ht]
    rfl
  rw [if_neg h4] at h ⊢
  by_cases h5 : c.toNat ∈ markL
  · rw [if_pos h5]
    show [c].count 40 = if [c] = [40] then 1 else 0
    by_cases hc : c = 40
    · subst hc; rfl
    · rw [if_neg (by simpa using hc)]
      exact count_none (fun d hd => by simp at hd; rw [hd]; exact hc)
  · rw [if_neg h5] at h; exact absurd rfl h
theorem tok_count {l : List UInt8} {i : Nat} {ts : List (List UInt8 × Nat)} (h : TokR l i ts) : (wordsT ts).countP (fun w => decide (w = ⟨#[40]⟩)) = l.count 40 := by
  induction h with
  | nil i => rfl
  | @space c r i ts hs _ ih =>
    rw [ih, List.count_cons_of_ne]
    intro e
    rw [e] at hs
    exact absurd hs (by decide)
  | @word c r i ts hs hp _ ih =>
    have hc := part_count c r hp
    have hl : (c :: r).count 40 = ((c :: r).take (partL (c :: r))).count 40 + ((c :: r).drop (partL (c :: r))).count 40 := by rw [← List.count_append, List.take_append_drop]
    rw [hl, ← ih, hc]
    generalize (c :: r).take (partL (c :: r)) = w
    show List.countP _ ((⟨w.toArray⟩ : ByteArray) :: wordsT ts) = _
    rw [List.countP_cons, Nat.add_comm]
    congr 1
    by_cases hw : w = [40]
    · subst hw; rfl
    · rw [if_neg hw, if_neg]
      intro e
      apply hw
      have e2 : (⟨w.toArray⟩ : ByteArray) = ⟨#[40]⟩ := of_decide_eq_true e
      injection e2 with e2
      have := congrArg Array.toList e2
      simpa using this
end Go.Proofs.Ws
namespace Go.Proofs.YtenbhalnpiahaaaGreatDoor
open Go.RowKit Go.Proofs.Ws Go.Maps
def pc (l : List ByteArray) : Nat := l.countP isP
theorem pc_app (a b : List ByteArray) : pc (a ++ b) = pc a + pc b := List.countP_append
theorem pc_no {w : ByteArray} (h : w ≠ ⟨#[40]⟩) (l : List ByteArray) : pc (w :: l) = pc l := List.countP_cons_of_neg (by unfold isP; rw [decide_eq_false h]; decide)
theorem pc_yes (l : List ByteArray) : pc (⟨#[40]⟩ :: l) = pc l + 1 := List.countP_cons_of_pos (by decide)
theorem nm_no {w : ByteArray} (h : nameOk w = true) : w ≠ ⟨#[40]⟩ := fun e => by rw [e] at h; exact absurd h (by decide)
theorem pc_enc {r : Nat} {t : Tr} {ws : List ByteArray} (h : pc ws = mpT t) : pc (encW r (levT t) ws) = (if levT t < r then 1 else 0) + mpT t := by
  unfold encW
  by_cases hl : levT t < r
  · rw [if_pos hl, if_pos hl, pc_yes, pc_app, h, pc_no (by decide)]
    show mpT t + 0 + 1 = _
    omega
  · rw [if_neg hl, if_neg hl, h, Nat.zero_add]
theorem pc_more {E : PEnv} (hN : Nms E) : ∀ js : List Nat, (∀ j ∈ js, j < E.A.length) → pc (moreW E.A js) = 0
  | [], _ => rfl
  | j :: js, h => by
    have hm : E.A.getD j ByteArray.empty ∈ E.A := by rw [List.getD_eq_getElem?_getD, List.getElem?_eq_getElem (h j (by simp))]; exact List.getElem_mem _
    show pc (⟨#[44]⟩ :: E.A.getD j ByteArray.empty :: moreW E.A js) = 0
    rw [pc_no (by decide), pc_no (nm_no (hN.ao _ hm))]
    exact pc_more hN js (fun k hk => h k (by simp [hk]))
theorem pc_grp {E : PEnv} (hN : Nms E) (g : Nat) : pc (grpW E.A g) = 0 := by
  have hm : ∀ j ∈ grpI E.A.length g, j < E.A.length := fun j hj => (grpI_mem.1 hj).1
  unfold grpW
  cases hc : grpI E.A.length g with
  | nil => rfl
  | cons j js =>
    rw [hc] at hm
    have hj : E.A.getD j ByteArray.empty ∈ E.A := by rw [List.getD_eq_getElem?_getD, List.getElem?_eq_getElem (hm j (by simp))]; exact List.getElem_mem _
    show pc (E.A.getD j ByteArray.empty :: moreW E.A js) = 0
    rw [pc_no (nm_no (hN.ao _ hj))]
    exact pc_more hN js (fun k hk => hm k (by simp [hk]))
theorem pc_cond {na nf nx : Nat} {a : Tr} {ws : List ByteArray} (h : PrT na nf nx a) (hw : pc ws = mpT a) : pc (condW (opTr a) ws) = mpT a := by
  unfold condW
  by_cases h1 : opTr a = 1
  · rw [if_pos h1, h.one h1]; rfl
  · rw [if_neg h1, pc_no (by decide), hw]
/-- a formula's text has the parentheses that it needs, and no more -/
theorem pc_prW {E : PEnv} (hN : Nms E) {t : Tr} (h : PrT E.A.length E.F.length E.X.length t) : pc (prW E.A E.F E.X t) = mpT t := by
  have mem : ∀ {l : List ByteArray} {i : Nat}, i < l.length → l.getD i ByteArray.empty ∈ l := fun hi => by rw [List.getD_eq_getElem?_getD, List.getElem?_eq_getElem hi]; exact List.getElem_mem hi
  induction h with
  | tt => rfl
  | ff => rfl
  | @fact i hi => exact pc_no (nm_no (hN.fo _ (mem hi))) []
  | @plain op a h ha ih =>
    rw [prW_un, pc_app, pc_enc ih]
    have : pc (headW E.A E.X (nd1 op)) = 0 := by rcases h with rfl | rfl | rfl <;> rfl
    rw [this, Nat.zero_add]; rfl
  | @agent op i a h hi ha ih =>
    rw [prW_un, pc_app, pc_enc ih]
    have hk := nm_no (hN.ao _ (mem hi))
    have : pc (headW E.A E.X ⟨op, i, 0, 0, 0, 0⟩) = 0 := by
      rcases h with rfl | rfl | rfl
      · show pc [⟨#[75]⟩, ⟨#[91]⟩, E.A.getD i ByteArray.empty, ⟨#[93]⟩] = 0
        rw [pc_no (by decide), pc_no (by decide), pc_no hk]; rfl
      · show pc [⟨#[77]⟩, ⟨#[91]⟩, E.A.getD i ByteArray.empty, ⟨#[93]⟩] = 0
        rw [pc_no (by decide), pc_no (by decide), pc_no hk]; rfl
      · show pc [⟨#[83]⟩, ⟨#[91]⟩, E.A.getD i ByteArray.empty, ⟨#[93]⟩] = 0
        rw [pc_no (by decide), pc_no (by decide), pc_no hk]; rfl
    rw [this, Nat.zero_add]; rfl
  | @group op g a h h0 hg ha ih =>
    rw [prW_un, pc_app, pc_enc ih]
    have : pc (headW E.A E.X ⟨op, 0, 0, g, 0, 0⟩) = 0 := by
      rcases h with rfl | rfl
      · show pc (⟨#[69]⟩ :: ⟨#[91]⟩ :: (grpW E.A g ++ [⟨#[93]⟩])) = 0
        rw [pc_no (by decide), pc_no (by decide), pc_app, pc_grp hN]; rfl
      · show pc (⟨#[68]⟩ :: ⟨#[91]⟩ :: (grpW E.A g ++ [⟨#[93]⟩])) = 0
        rw [pc_no (by decide), pc_no (by decide), pc_app, pc_grp hN]; rfl
    rw [this, Nat.zero_add]; rfl
  | @act i e a hi he ha ih =>
    rw [prW_un, pc_app, pc_enc ih]
    have hk := nm_no (hN.xo _ (mem hi))
    have hd : digW e ≠ ⟨#[40]⟩ := by
      match e, he with
      | 0, _ => decide
      | 1, _ => decide
      | 2, _ => decide
      | 3, _ => decide
      | 4, _ => decide
      | 5, _ => decide
      | 6, _ => decide
      | 7, _ => decide
    have : pc (headW E.A E.X ⟨17, i, e, 0, 0, 0⟩) = 0 := by
      show pc [⟨#[91]⟩, E.X.getD i ByteArray.empty, ⟨#[46]⟩, digW e, ⟨#[93]⟩] = 0
      rw [pc_no (by decide), pc_no hk, pc_no (by decide), pc_no hd]; rfl
    rw [this, Nat.zero_add]; rfl
  | @mid op a b h ha hb iha ihb =>
    have hne : op ≠ 16 ∧ op ≠ 14 ∧ op ≠ 13 ∧ signW op ≠ ⟨#[40]⟩ := by rcases h with rfl | rfl | rfl | rfl | rfl | rfl <;> decide
    rw [prW_bin, if_neg (show ¬ (nd1 op).op = 16 from hne.1), if_neg (show ¬ (nd1 op).op = 14 from hne.2.1), if_neg (show ¬ (nd1 op).op = 13 from hne.2.2.1), pc_app, pc_no (show signW (nd1 op).op ≠ _ from hne.2.2.2), pc_enc iha, pc_enc ihb]
    show _ = (if (nd1 op).op = 16 ∨ (nd1 op).op = 14 ∨ (nd1 op).op = 13 then _ else _)
    rw [if_neg (show ¬ ((nd1 op).op = 16 ∨ (nd1 op).op = 14 ∨ (nd1 op).op = 13) from fun h => by rcases h with h | h | h; exact hne.1 h; exact hne.2.1 h; exact hne.2.2.1 h)]
  | @announce a b ha hb iha ihb =>
    rw [prW_bin, if_pos (show (nd1 16).op = 16 from rfl), pc_no (by decide), pc_no (by decide), pc_app, pc_no (by decide), iha, pc_enc ihb]
    rfl
  | @belief i a b hi ha hb iha ihb =>
    rw [prW_bin, if_neg (show ¬ ((14 : Int) = 16) by decide), if_pos (show (14 : Int) = 14 from rfl), pc_no (by decide), pc_no (by decide), pc_no (w := E.A.getD (Nd.i ⟨14, (i : Int), 0, 0, 0, 0⟩).toNat ByteArray.empty) (nm_no (hN.ao _ (mem hi))), pc_app, pc_cond ha iha, pc_no (by decide), pc_enc ihb]
    rfl
  | @common g a b h0 hg ha hb iha ihb =>
    rw [prW_bin, if_neg (show ¬ ((13 : Int) = 16) by decide), if_neg (show ¬ ((13 : Int) = 14) by decide), if_pos (show (13 : Int) = 13 from rfl), pc_no (by decide), pc_no (by decide), pc_app, pc_grp hN, pc_app, pc_cond ha iha, pc_no (by decide), pc_enc ihb, Nat.zero_add]
    rfl
/-- a text with fewer parentheses is not read as the formula -/
theorem print_minimal {A F X : List ByteArray} {f : List Nd} {s : ByteArray} (h : (printV A F X f).2 = 0) (hp : (parseV A F X s).err = 0) (hc : s.data.toList.count 40 < (printV A F X f).1.data.toList.count 40) : (parseV A F X s).nodes ≠ compF f := by
  intro he
  have hs : sigErr A F X = 0 := (parse_named hp).1
  obtain ⟨_, htok, _, tr, ⟨n, hr⟩, hn, hl, hok⟩ := parseV_ok hp
  obtain ⟨_, hcnt⟩ := runT_par ⟨A, F, X, (tokV s).words⟩ n .formula 0 _ tr hr
  unfold loP accP at hcnt
  dsimp only at hcnt
  rw [mpE_zero] at hcnt
  have hw : ∀ {s : ByteArray}, (tokV s).err = 0 → pc (tokV s).words = s.data.toList.count 40 := fun {s} h => by
    obtain ⟨_, ts, h1, h2, _⟩ := tokV_R h
    rw [h2]
    exact tok_count h1
  have e0 : parP ⟨A, F, X, (tokV s).words⟩ 0 = 0 := by unfold parP; simp
  have e1 : parP ⟨A, F, X, (tokV s).words⟩ (tokV s).words.length = pc (tokV s).words := by unfold parP pc; rw [List.take_length]
  rw [e0, e1, hw htok] at hcnt
  -- the formula's own text
  have hv : ∃ t, PrT A.length F.length X.length t ∧ trOk t ∧ compF f = canT t ∧ (printV A F X f).1 = ⟨(textP A F X t).toArray⟩ := by
    unfold printV at h ⊢
    by_cases hf : fErr f = 0
    · rw [if_neg (by rw [hs]; decide), if_neg (by rw [hf]; decide)] at h ⊢
      cases hnm : namedB A F X f with
      | false => rw [hnm, if_pos rfl] at h; exact absurd h (show ¬ ((2 : Int) = 0) by decide)
      | true =>
        rw [hnm, if_neg (by decide)] at h
        rw [if_neg (by decide)]
        obtain ⟨ht, hc2, hp2⟩ := named_tree hf hnm
        by_cases hl2 : 4000 < (textP A F X (treeAt f (f.length - 1))).length
        · rw [if_pos hl2] at h; exact absurd h (show ¬ ((8 : Int) = 0) by decide)
        · rw [if_neg hl2]; exact ⟨_, hp2, ht, hc2, rfl⟩
    · rw [if_neg (by rw [hs]; decide), if_pos hf] at h; exact absurd h hf
  obtain ⟨t, hpt, hto, hct, htx⟩ := hv
  have et2 : tr = t := canT_inj hok.1 hto (by rw [← hn, he, hct])
  obtain ⟨ts, k1, k2⟩ := text_tok (NmT.of_sig hs) hpt 0
  have hcount := tok_count k1
  rw [k2] at hcount
  have hpc : pc (prW A F X t) = mpT t := pc_prW (E := ⟨A, F, X, []⟩) (Nms.of_sig hs) hpt
  rw [htx] at hc
  have e3 : (textP A F X t).count 40 = mpT t := by rw [← hcount, ← hpc]; rfl
  have e4 : (⟨(textP A F X t).toArray⟩ : ByteArray).data.toList = textP A F X t := by simp
  rw [e4, e3] at hc
  rw [et2] at hcnt
  omega
end Go.Proofs.YtenbhalnpiahaaaGreatDoor
/- Layer 7 as plain mathematics: the length of the text of a conjunction of a formula with itself. -/
namespace Go.Proofs.YtenbhalnpiahaaaGreatDoor
open Go.RowKit Go.Proofs.Ws Go.Maps
theorem encB_range (r l : Nat) (t : List UInt8) : t.length ≤ (encB r l t).length ∧ (encB r l t).length ≤ t.length + 2 := by
  unfold encB
  split
  · simp; omega
  · exact ⟨Nat.le_refl _, by omega⟩
theorem and_len (A F X : List ByteArray) (t : Tr) : 2 * (textP A F X t).length + 3 ≤ (textP A F X (.bin (nd1 5) t t)).length ∧ (textP A F X (.bin (nd1 5) t t)).length ≤ 2 * (textP A F X t).length + 7 := by
  have e : textP A F X (.bin (nd1 5) t t) = encB 4 (levT t) (textP A F X t) ++ 32 :: ([38] ++ 32 :: encB 5 (levT t) (textP A F X t)) := rfl
  have h1 := encB_range 4 (levT t) (textP A F X t)
  have h2 := encB_range 5 (levT t) (textP A F X t)
  rw [e]
  simp only [List.length_append, List.length_cons, List.length_nil]
  omega
theorem text_pos {A F X : List ByteArray} {t : Tr} (hN : NmT A F X) (h : PrT A.length F.length X.length t) : 0 < (textP A F X t).length := by
  have tok : ∀ {w : List UInt8}, IsTok w → 0 < w.length := fun {w} h => by obtain ⟨c, r, rfl, _⟩ := h; simp
  cases h with
  | tt => exact (by decide : 0 < 4)
  | ff => exact (by decide : 0 < 5)
  | fact hi => exact tok (hN.f _ hi)
  | @plain op a h ha =>
    rw [textP_un, List.length_append]
    have : 0 < (headB A X (nd1 op)).length := by rcases h with rfl | rfl | rfl <;> (unfold headB nd1; simp)
    omega
  | @agent op i a h hi ha =>
    rw [textP_un, List.length_append]
    have : 0 < (headB A X ⟨op, i, 0, 0, 0, 0⟩).length := by rcases h with rfl | rfl | rfl <;> (unfold headB; simp)
    omega
  | @group op g a h h0 hg ha =>
    rw [textP_un, List.length_append]
    have : 0 < (headB A X ⟨op, 0, 0, g, 0, 0⟩).length := by rcases h with rfl | rfl <;> (unfold headB; simp)
    omega
  | @act i e a hi he ha =>
    rw [textP_un, List.length_append]
    have : 0 < (headB A X ⟨17, i, e, 0, 0, 0⟩).length := by unfold headB; simp
    omega
  | @mid op a b h ha hb =>
    have hne : op ≠ 16 ∧ op ≠ 14 ∧ op ≠ 13 := by rcases h with rfl | rfl | rfl | rfl | rfl | rfl <;> decide
    rw [textP_bin, if_neg (show ¬ (nd1 op).op = 16 from hne.1), if_neg (show ¬ (nd1 op).op = 14 from hne.2.1), if_neg (show ¬ (nd1 op).op = 13 from hne.2.2)]
    simp only [List.length_append, List.length_cons]
    omega
  | @announce a b ha hb =>
    rw [textP_bin, if_pos (show (nd1 16).op = 16 from rfl)]
    simp
  | @belief i a b hi ha hb =>
    rw [textP_bin, if_neg (show ¬ ((14 : Int) = 16) by decide), if_pos (show (14 : Int) = 14 from rfl)]
    simp
  | @common g a b h0 hg ha hb =>
    rw [textP_bin, if_neg (show ¬ ((13 : Int) = 16) by decide), if_neg (show ¬ ((13 : Int) = 14) by decide), if_pos (show (13 : Int) = 13 from rfl)]
    simp
end Go.Proofs.YtenbhalnpiahaaaGreatDoor
