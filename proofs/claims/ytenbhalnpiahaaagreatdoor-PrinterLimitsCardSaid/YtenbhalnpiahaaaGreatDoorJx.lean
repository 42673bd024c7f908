/- Layer 6: texts joined: Ze Zf Zg Xa. -/
import Derived.Test.YtenbhalnpiahaaaGreatDoorJm
import Derived.Test.YtenbhalnpiahaaaGreatDoorJn
import Derived.Test.YtenbhalnpiahaaaGreatDoorJw
/- Layer 7 as plain mathematics: a formula whose names are in the signature; its text is parsed as its canonical list. -/
namespace Go.Proofs.YtenbhalnpiahaaaGreatDoor
open Go.RowKit Go.Proofs.Ws Go.Maps
/-- a node whose names are all in the signature -/
def okX (E : PEnv) (n : Nd) : Prop := okE E n ∧ (n.op = 17 → n.i < (E.X.length : Int))
theorem nat_of {i : Int} (h : 0 ≤ i) : ∃ k : Nat, i = (k : Int) := ⟨i.toNat, by omega⟩
theorem prT_of {E : PEnv} : ∀ {t : Tr}, trOk t → trAll (okX E) t → PrT E.A.length E.F.length E.X.length t
  | .leaf n, h, ha => by
    obtain ⟨hx, hy, hb⟩ := h
    obtain ⟨⟨hf, h3, h4, h5⟩, h17⟩ := ha
    obtain ⟨op, i, e, g, x, y⟩ := n
    unfold bare at hb
    simp only [Nd.mk.injEq, true_and] at hb
    obtain ⟨rfl, rfl⟩ := hb
    dsimp only at hx hy h3 h4 h5 h17
    have hk := hf.1
    unfold known at hk
    unfold usesX at hx
    simp only [Bool.and_eq_true, decide_eq_true_eq, Bool.and_eq_false_iff, decide_eq_false_iff_not] at hk hx
    have : op = 1 ∨ op = 2 ∨ op = 3 := by omega
    rcases this with rfl | rfl | rfl
    · simp [fldOk, known, hasAgent, hasGroup, rangeOk, shN, shE, shG] at hf
      obtain ⟨rfl, rfl, rfl⟩ := hf
      exact PrT.tt
    · simp [fldOk, known, hasAgent, hasGroup, rangeOk, shN, shE, shG] at hf
      obtain ⟨rfl, rfl, rfl⟩ := hf
      exact PrT.ff
    · simp [fldOk, known, hasAgent, hasGroup, rangeOk, shN, shE, shG] at hf
      obtain ⟨⟨rfl, rfl⟩, h0, _⟩ := hf
      obtain ⟨k, rfl⟩ := nat_of h0
      exact PrT.fact (by have := h3 rfl; omega)
  | .un n a, h, ha => by
    obtain ⟨hx, hy, hb, ht⟩ := h
    obtain ⟨⟨⟨hf, h3, h4, h5⟩, h17⟩, hta⟩ := ha
    have ih := prT_of ht hta
    obtain ⟨op, i, e, g, x, y⟩ := n
    unfold bare at hb
    simp only [Nd.mk.injEq, true_and] at hb
    obtain ⟨rfl, rfl⟩ := hb
    dsimp only at hx hy h3 h4 h5 h17
    have hk := hf.1
    unfold known at hk
    unfold usesX at hx
    unfold usesY at hy
    simp only [Bool.and_eq_true, decide_eq_true_eq, Bool.or_eq_false_iff, Bool.and_eq_false_iff, decide_eq_false_iff_not] at hk hx hy
    have : op = 4 ∨ op = 9 ∨ op = 10 ∨ op = 11 ∨ op = 12 ∨ op = 15 ∨ op = 17 ∨ op = 18 ∨ op = 20 := by omega
    rcases this with rfl | rfl | rfl | rfl | rfl | rfl | rfl | rfl | rfl
    · simp [fldOk, known, hasAgent, hasGroup, rangeOk, shN, shE, shG] at hf
      obtain ⟨rfl, rfl, rfl⟩ := hf
      exact PrT.plain (by decide) ih
    · simp [fldOk, known, hasAgent, hasGroup, rangeOk, shN, shE, shG] at hf
      obtain ⟨⟨rfl, rfl⟩, h0, _⟩ := hf
      obtain ⟨k, rfl⟩ := nat_of h0
      exact PrT.agent (by decide) (by have := h4 rfl; omega) ih
    · simp [fldOk, known, hasAgent, hasGroup, rangeOk, shN, shE, shG] at hf
      obtain ⟨⟨rfl, rfl⟩, h0, _⟩ := hf
      obtain ⟨k, rfl⟩ := nat_of h0
      exact PrT.agent (by decide) (by have := h4 rfl; omega) ih
    · simp [fldOk, known, hasAgent, hasGroup, rangeOk, shN, shE, shG] at hf
      obtain ⟨⟨rfl, rfl⟩, h0, _⟩ := hf
      obtain ⟨k, rfl⟩ := nat_of (show 0 ≤ g by omega)
      exact PrT.group (by decide) (by omega) (by omega) ih
    · simp [fldOk, known, hasAgent, hasGroup, rangeOk, shN, shE, shG] at hf
      obtain ⟨⟨rfl, rfl⟩, h0, _⟩ := hf
      obtain ⟨k, rfl⟩ := nat_of (show 0 ≤ g by omega)
      exact PrT.group (by decide) (by omega) (by omega) ih
    · simp [fldOk, known, hasAgent, hasGroup, rangeOk, shN, shE, shG] at hf
      obtain ⟨⟨rfl, rfl⟩, h0, _⟩ := hf
      obtain ⟨k, rfl⟩ := nat_of h0
      exact PrT.agent (by decide) (by have := h4 rfl; omega) ih
    · simp [fldOk, known, hasAgent, hasGroup, rangeOk, shN, shE, shG] at hf
      obtain ⟨rfl, ⟨h0, _⟩, h1, h2⟩ := hf
      obtain ⟨k, rfl⟩ := nat_of h0
      obtain ⟨m, rfl⟩ := nat_of h1
      exact PrT.act (by have := h17 rfl; omega) (by omega) ih
    · simp [fldOk, known, hasAgent, hasGroup, rangeOk, shN, shE, shG] at hf
      obtain ⟨rfl, rfl, rfl⟩ := hf
      exact PrT.plain (by decide) ih
    · simp [fldOk, known, hasAgent, hasGroup, rangeOk, shN, shE, shG] at hf
      obtain ⟨rfl, rfl, rfl⟩ := hf
      exact PrT.plain (by decide) ih
  | .bin n a b, h, ha => by
    obtain ⟨hx, hy, hb, ht, ht2⟩ := h
    obtain ⟨⟨⟨hf, h3, h4, h5⟩, h17⟩, hta, htb⟩ := ha
    have iha := prT_of ht hta
    have ihb := prT_of ht2 htb
    obtain ⟨op, i, e, g, x, y⟩ := n
    unfold bare at hb
    simp only [Nd.mk.injEq, true_and] at hb
    obtain ⟨rfl, rfl⟩ := hb
    dsimp only at hx hy h3 h4 h5 h17
    unfold usesY at hy
    simp only [Bool.and_eq_true, decide_eq_true_eq, Bool.or_eq_true] at hy
    have : op = 5 ∨ op = 6 ∨ op = 7 ∨ op = 8 ∨ op = 13 ∨ op = 14 ∨ op = 16 ∨ op = 19 ∨ op = 21 := by omega
    rcases this with rfl | rfl | rfl | rfl | rfl | rfl | rfl | rfl | rfl
    · simp [fldOk, known, hasAgent, hasGroup, rangeOk, shN, shE, shG] at hf
      obtain ⟨rfl, rfl, rfl⟩ := hf
      exact PrT.mid (by unfold MidN; decide) iha ihb
    · simp [fldOk, known, hasAgent, hasGroup, rangeOk, shN, shE, shG] at hf
      obtain ⟨rfl, rfl, rfl⟩ := hf
      exact PrT.mid (by unfold MidN; decide) iha ihb
    · simp [fldOk, known, hasAgent, hasGroup, rangeOk, shN, shE, shG] at hf
      obtain ⟨rfl, rfl, rfl⟩ := hf
      exact PrT.mid (by unfold MidN; decide) iha ihb
    · simp [fldOk, known, hasAgent, hasGroup, rangeOk, shN, shE, shG] at hf
      obtain ⟨rfl, rfl, rfl⟩ := hf
      exact PrT.mid (by unfold MidN; decide) iha ihb
    · simp [fldOk, known, hasAgent, hasGroup, rangeOk, shN, shE, shG] at hf
      obtain ⟨⟨rfl, rfl⟩, h0, _⟩ := hf
      obtain ⟨k, rfl⟩ := nat_of (show 0 ≤ g by omega)
      exact PrT.common (by omega) (by omega) iha ihb
    · simp [fldOk, known, hasAgent, hasGroup, rangeOk, shN, shE, shG] at hf
      obtain ⟨⟨rfl, rfl⟩, h0, _⟩ := hf
      obtain ⟨k, rfl⟩ := nat_of h0
      exact PrT.belief (by have := h4 rfl; omega) iha ihb
    · simp [fldOk, known, hasAgent, hasGroup, rangeOk, shN, shE, shG] at hf
      obtain ⟨rfl, rfl, rfl⟩ := hf
      exact PrT.announce iha ihb
    · simp [fldOk, known, hasAgent, hasGroup, rangeOk, shN, shE, shG] at hf
      obtain ⟨rfl, rfl, rfl⟩ := hf
      exact PrT.mid (by unfold MidN; decide) iha ihb
    · simp [fldOk, known, hasAgent, hasGroup, rangeOk, shN, shE, shG] at hf
      obtain ⟨rfl, rfl, rfl⟩ := hf
      exact PrT.mid (by unfold MidN; decide) iha ihb
end Go.Proofs.YtenbhalnpiahaaaGreatDoor
/- Layer 7 as plain mathematics: the text of a formula within the signature is parsed as its canonical list. -/
namespace Go.Proofs.Ws
open Go
theorem bitAux_lt : ∀ (f x k : Nat), x < 2 ^ f → Lib.bitLenAux f x ≤ k → x < 2 ^ k
  | 0, x, k, h, _ => by
    have : x = 0 := by simpa using h
    rw [this]; exact Nat.two_pow_pos k
  | f + 1, x, k, h, hk => by
    by_cases h0 : x = 0
    · rw [h0]; exact Nat.two_pow_pos k
    · have hk2 : 1 + Lib.bitLenAux f (x / 2) ≤ k := by
        have e : Lib.bitLenAux (f + 1) x = if x = 0 then 0 else 1 + Lib.bitLenAux f (x / 2) := rfl
        rwa [e, if_neg h0] at hk
      obtain ⟨j, rfl⟩ : ∃ j, k = j + 1 := ⟨k - 1, by omega⟩
      have := bitAux_lt f (x / 2) j (by rw [Nat.pow_succ] at h; omega) (by omega)
      rw [Nat.pow_succ]
      omega
theorem belowM_lt {m a : Nat} (hm : m < 512) (h : belowM m (a : Int) = true) : m < 2 ^ a := by
  unfold belowM at h
  simp only [Bool.or_eq_true, decide_eq_true_eq] at h
  rcases h with h | h
  · rw [h]; exact Nat.two_pow_pos a
  · exact bitAux_lt 64 m a (Nat.lt_of_lt_of_le hm (by decide)) (by unfold Lib.bitLen at h; omega)
theorem maskL_ge (g : Nd → Nat) : ∀ (l : List Nd) (a : Nat), a ≤ l.foldl (fun m n => m ||| g n) a ∧ ∀ n ∈ l, g n ≤ l.foldl (fun m n => m ||| g n) a
  | [], a => ⟨Nat.le_refl _, fun n hn => absurd hn (by simp)⟩
  | x :: l, a => by
    obtain ⟨h1, h2⟩ := maskL_ge g l (a ||| g x)
    refine ⟨Nat.le_trans Nat.left_le_or h1, fun n hn => ?_⟩
    rcases List.mem_cons.1 hn with rfl | hn
    · exact Nat.le_trans Nat.right_le_or h1
    · exact h2 n hn
theorem pow_idx {i : Int} {a : Nat} (h0 : 0 ≤ i) (h : 2 ^ i.toNat < 2 ^ a) : i < (a : Int) := by
  have := (Nat.pow_lt_pow_iff_right (a := 2) (by decide)).1 h
  omega
end Go.Proofs.Ws
namespace Go.Proofs.YtenbhalnpiahaaaGreatDoor
open Go.RowKit Go.Proofs.Ws Go.Maps
/-- what Fits says of the nodes of a canonical list -/
theorem fits_nodes {A F X ws : List ByteArray} {f : List Nd} (h : fitsF f (A.length : Int) (F.length : Int) = true) : ∀ n ∈ compF f, okE ⟨A, F, X, ws⟩ n := by
  unfold fitsF at h
  simp only [Bool.and_eq_true, decide_eq_true_eq] at h
  obtain ⟨_, hA, hF⟩ := h
  have m1 := belowM_lt (agentM_lt f) hA
  have m2 := belowM_lt (factM_lt f) hF
  intro n hn
  have hf := compF_fld f n hn
  have g1 : agentD n < 2 ^ A.length := Nat.lt_of_le_of_lt ((maskL_ge agentD (compF f) 0).2 n hn) m1
  have g2 : factD n < 2 ^ F.length := Nat.lt_of_le_of_lt ((maskL_ge factD (compF f) 0).2 n hn) m2
  unfold agentD at g1
  unfold factD at g2
  refine ⟨hf, fun e => ?_, fun e => ?_, ?_⟩
  · rw [if_pos e] at g2
    exact pow_idx (fld_num0 hf (.inl e)) g2
  · rw [if_pos e] at g1
    exact pow_idx (fld_num0 hf (.inr e)) g1
  · show n.g < ((2 ^ A.length : Nat) : Int)
    by_cases e : hasAgent n.op = true
    · have hg : n.g = 0 := by
        rcases hf.2.1.2.2 with h4 | h4
        · exfalso
          unfold hasAgent at e
          unfold hasGroup at h4
          simp only [Bool.or_eq_true, Bool.and_eq_true, decide_eq_true_eq] at e h4
          omega
        · exact h4
      rw [hg]
      have := Nat.two_pow_pos A.length
      omega
    · rw [if_neg e] at g1
      omega
/-- the tree of a formula within the signature -/
theorem tree_named {A F X : List ByteArray} {f : List Nd} (hf : fErr f = 0) (hfit : fitsF f (A.length : Int) (F.length : Int) = true) (hx : ∀ n ∈ compF f, n.op = 17 → n.i < (X.length : Int)) :
    trOk (treeAt f (f.length - 1)) ∧ compF f = canT (treeAt f (f.length - 1)) ∧ PrT A.length F.length X.length (treeAt f (f.length - 1)) := by
  have hne : f.length ≠ 0 := by simpa using (fErr_ok hf).1
  have ht : trOk (treeAt f (f.length - 1)) := treeAt_ok (fErr_ops hf) _ _ (Nat.lt_succ_self _) (by omega)
  have hc := compF_tree hf
  refine ⟨ht, hc, ?_⟩
  have hn : ∀ n ∈ canT (treeAt f (f.length - 1)), okX ⟨A, F, X, []⟩ n := fun n hn => by
    rw [← hc] at hn
    exact ⟨fits_nodes hfit n hn, hx n hn⟩
  have hl : (canT (treeAt f (f.length - 1))).length ≠ 0 := by simpa using canT_ne _
  have ha : trAll (okX ⟨A, F, X, []⟩) (treeAt (canT (treeAt f (f.length - 1))) ((canT (treeAt f (f.length - 1))).length - 1)) := treeAt_all (canT_ops ht) (fun n h => hn n h) _ _ (Nat.lt_succ_self _) (by omega)
  rw [canT_tree ht] at ha
  exact prT_of (E := ⟨A, F, X, []⟩) ht ha
end Go.Proofs.YtenbhalnpiahaaaGreatDoor
/- Layer 7 as plain mathematics: the length of the texts of subformulas; what Print returns. -/
namespace Go.Proofs.YtenbhalnpiahaaaGreatDoor
open Go.RowKit Go.Proofs.Ws Go.Maps
theorem encB_len (r l : Nat) (t : List UInt8) : t.length ≤ (encB r l t).length := by
  unfold encB
  split
  · simp; omega
  · exact Nat.le_refl _
theorem condB_len (op : Int) (t : List UInt8) (h : op ≠ 1) : t.length ≤ (condB op t).length := by
  unfold condB
  rw [if_neg h]
  simp
theorem leaf_len (A F X : List ByteArray) {a : Tr} {na nf nx : Nat} (h : PrT na nf nx a) (h1 : opTr a = 1) : ∀ s, subT s a → (textP A F X s).length ≤ 4 := by
  rw [h.one h1]
  intro s hs
  have : s = .leaf (nd1 1) := hs
  rw [this]
  exact Nat.le_refl 4
/-- the text of a part is no longer than the whole, but for a condition that is left out -/
theorem sub_len (A F X : List ByteArray) {na nf nx : Nat} {t : Tr} (h : PrT na nf nx t) : ∀ s, subT s t → (textP A F X s).length ≤ 4 ∨ (textP A F X s).length ≤ (textP A F X t).length := by
  have un : ∀ (n : Nd) (a : Tr), (∀ s, subT s a → (textP A F X s).length ≤ 4 ∨ (textP A F X s).length ≤ (textP A F X a).length) → ∀ s, subT s (.un n a) → (textP A F X s).length ≤ 4 ∨ (textP A F X s).length ≤ (textP A F X (.un n a)).length := by
    intro n a ih s hs
    rcases hs with rfl | hs
    · exact .inr (Nat.le_refl _)
    · refine (ih s hs).imp id (fun h => Nat.le_trans h ?_)
      rw [textP_un, List.length_append]
      have := encB_len 5 (levT a) (textP A F X a)
      omega
  have bin : ∀ (n : Nd) (a b : Tr), (opTr a = 1 → ∀ s, subT s a → (textP A F X s).length ≤ 4) → (∀ s, subT s a → (textP A F X s).length ≤ 4 ∨ (textP A F X s).length ≤ (textP A F X a).length) → (∀ s, subT s b → (textP A F X s).length ≤ 4 ∨ (textP A F X s).length ≤ (textP A F X b).length) →
      ∀ s, subT s (.bin n a b) → (textP A F X s).length ≤ 4 ∨ (textP A F X s).length ≤ (textP A F X (.bin n a b)).length := by
    intro n a b h1 iha ihb s hs
    have key : (opTr a ≠ 1 → (textP A F X a).length ≤ (textP A F X (.bin n a b)).length) ∧ (textP A F X b).length ≤ (textP A F X (.bin n a b)).length := by
      have e1 := encB_len 5 (levT b) (textP A F X b)
      have e2 := encB_len (leftN n.op) (levT a) (textP A F X a)
      have e3 := encB_len (rightN n.op) (levT b) (textP A F X b)
      rw [textP_bin]
      split
      · simp only [List.length_cons, List.length_append]; exact ⟨fun _ => by omega, by omega⟩
      · split
        · refine ⟨fun h => ?_, ?_⟩
          · have := condB_len (opTr a) (textP A F X a) h
            simp only [List.length_cons, List.length_append]; omega
          · simp only [List.length_cons, List.length_append]; omega
        · split
          · refine ⟨fun h => ?_, ?_⟩
            · have := condB_len (opTr a) (textP A F X a) h
              simp only [List.length_cons, List.length_append]; omega
            · simp only [List.length_cons, List.length_append]; omega
          · simp only [List.length_cons, List.length_append]; exact ⟨fun _ => by omega, by omega⟩
    rcases hs with rfl | hs | hs
    · exact .inr (Nat.le_refl _)
    · by_cases ho : opTr a = 1
      · exact .inl (h1 ho s hs)
      · exact (iha s hs).imp id (fun h => Nat.le_trans h (key.1 ho))
    · exact (ihb s hs).imp id (fun h => Nat.le_trans h key.2)
  induction h with
  | tt => intro s hs; have : s = .leaf (nd1 1) := hs; rw [this]; exact .inr (Nat.le_refl _)
  | ff => intro s hs; have : s = .leaf (nd1 2) := hs; rw [this]; exact .inr (Nat.le_refl _)
  | @fact i hi => intro s hs; have : s = .leaf ⟨3, i, 0, 0, 0, 0⟩ := hs; rw [this]; exact .inr (Nat.le_refl _)
  | plain h ha ih => exact un _ _ ih
  | agent h hi ha ih => exact un _ _ ih
  | group h h0 hg ha ih => exact un _ _ ih
  | act hi he ha ih => exact un _ _ ih
  | mid h ha hb iha ihb => exact bin _ _ _ (leaf_len A F X ha) iha ihb
  | announce ha hb iha ihb => exact bin _ _ _ (leaf_len A F X ha) iha ihb
  | belief hi ha hb iha ihb => exact bin _ _ _ (leaf_len A F X ha) iha ihb
  | common h0 hg ha hb iha ihb => exact bin _ _ _ (leaf_len A F X ha) iha ihb
/-- all nodes of a canonical list have names -/
def namedB (A F X : List ByteArray) (f : List Nd) : Bool := fitsF f (A.length : Int) (F.length : Int) && (compF f).all (fun n => decide (n.op = 17 → n.i < (X.length : Int)))
/-- what Print returns -/
def printV (A F X : List ByteArray) (f : List Nd) : ByteArray × Int :=
  if sigErr A F X ≠ 0 then (⟨#[]⟩, sigErr A F X) else
  if fErr f ≠ 0 then (⟨#[]⟩, fErr f) else
  if namedB A F X f = false then (⟨#[]⟩, 2) else
  if 4000 < (textP A F X (treeAt f (f.length - 1))).length then (⟨#[]⟩, 8) else (⟨(textP A F X (treeAt f (f.length - 1))).toArray⟩, 0)
theorem named_tree {A F X : List ByteArray} {f : List Nd} (hf : fErr f = 0) (h : namedB A F X f = true) :
    trOk (treeAt f (f.length - 1)) ∧ compF f = canT (treeAt f (f.length - 1)) ∧ PrT A.length F.length X.length (treeAt f (f.length - 1)) := by
  unfold namedB at h
  rw [Bool.and_eq_true, List.all_eq_true] at h
  exact tree_named hf h.1 (fun n hn => of_decide_eq_true (h.2 n hn))
/-- if the whole text is short enough, so is each part's -/
theorem part_len {A F X : List ByteArray} {f : List Nd} (hf : fErr f = 0) (h : namedB A F X f = true) (hl : (textP A F X (treeAt f (f.length - 1))).length ≤ 4000) (k : Nat) (hk : k < (compF f).length) : (textP A F X (treeAt (compF f) k)).length ≤ 4000 := by
  obtain ⟨ht, hc, hp⟩ := named_tree hf h
  rw [hc] at hk ⊢
  rcases sub_len A F X hp _ (canT_sub ht hk) with h1 | h1
  · omega
  · omega
end Go.Proofs.YtenbhalnpiahaaaGreatDoor
/- Layer 7: the text of a node of a list, from the texts of its operands. -/
namespace Go.Proofs.Ws
open Go
def tx (A F X : List ByteArray) (l : List Nd) (k : Nat) : List UInt8 := textP A F X (treeAt l k)
def opA (l : List Nd) (k : Nat) : Int := (l.getD k nd0).op
/-- the text of a node at a place where a level is required -/
def en (A F X : List ByteArray) (l : List Nd) (r k : Nat) : List UInt8 := encB r (levN (opA l k)) (tx A F X l k)
def wordB (op : Int) : ByteArray :=
  if op = 1 then ⟨#[116, 114, 117, 101]⟩ else if op = 2 then ⟨#[102, 97, 108, 115, 101]⟩ else if op = 3 then ⟨#[]⟩ else if op = 4 then ⟨#[126]⟩
  else if op = 5 then ⟨#[38]⟩ else if op = 6 then ⟨#[124]⟩ else if op = 7 then ⟨#[45, 62]⟩ else if op = 8 then ⟨#[60, 45, 62]⟩
  else if op = 9 then ⟨#[75]⟩ else if op = 10 then ⟨#[77]⟩ else if op = 11 then ⟨#[69]⟩ else if op = 12 then ⟨#[68]⟩ else if op = 13 then ⟨#[67]⟩ else if op = 14 then ⟨#[66]⟩ else if op = 15 then ⟨#[83]⟩
  else if op = 16 then ⟨#[33]⟩ else if op = 17 then ⟨#[46]⟩ else if op = 18 then ⟨#[110, 101, 120, 116, 32]⟩ else if op = 19 then ⟨#[117, 110, 116, 105, 108]⟩ else if op = 20 then ⟨#[112, 114, 101, 118, 32]⟩ else ⟨#[115, 105, 110, 99, 101]⟩
def kindN (op : Int) : Int :=
  if op = 1 then 0 else if op = 2 then 0 else if op = 3 then 1 else if op = 4 then 2 else if op = 18 then 2 else if op = 20 then 2
  else if op = 5 then 3 else if op = 6 then 3 else if op = 7 then 3 else if op = 8 then 3 else if op = 19 then 3 else if op = 21 then 3
  else if op = 13 then 5 else if op = 14 then 5 else if op = 16 then 6 else if op = 17 then 7 else 4
def reqX (op : Int) : Nat :=
  if op = 1 then 0 else if op = 2 then 0 else if op = 3 then 0 else if op = 5 then 4 else if op = 6 then 3 else if op = 7 then 2 else if op = 8 then 0 else if op = 19 then 3 else if op = 21 then 3
  else if op = 13 then 0 else if op = 14 then 0 else if op = 16 then 0 else 5
def reqY (op : Int) : Nat :=
  if op = 5 then 5 else if op = 6 then 4 else if op = 7 then 1 else if op = 8 then 1 else if op = 19 then 2 else if op = 21 then 2 else if op = 13 then 5 else if op = 14 then 5 else if op = 16 then 5 else 0
/-- the names of the agents of a node -/
def agB (A : List ByteArray) (n : Nd) : List UInt8 := if hasGroup n.op = true then grpB A n.g.toNat else (A.getD n.i.toNat ByteArray.empty).data.toList
theorem opTr_at {l : List Nd} (ho : opsL l) {k : Nat} (hk : k < l.length) : opTr (treeAt l k) = opA l k := by
  rw [treeAt_eq ho hk]
  unfold opA
  split
  · rfl
  · split <;> rfl
theorem en_eq {A F X : List ByteArray} {l : List Nd} (ho : opsL l) {r k : Nat} (hk : k < l.length) : encB r (levT (treeAt l k)) (textP A F X (treeAt l k)) = en A F X l r k := by
  unfold en levT
  rw [opTr_at ho hk]
  rfl
theorem en_zero (A F X : List ByteArray) (l : List Nd) (k : Nat) : en A F X l 0 k = tx A F X l k := by
  unfold en encB
  rw [if_neg (Nat.not_lt_zero _)]
section
variable {A F X : List ByteArray} {l : List Nd} {i : Nat}
theorem tx_leaf (ho : opsL l) (hi : i < l.length) (hx : usesX (opA l i) = false) : tx A F X l i = if opA l i = 1 then [116, 114, 117, 101] else if opA l i = 2 then [102, 97, 108, 115, 101] else (F.getD (l.getD i nd0).i.toNat ByteArray.empty).data.toList := by
  have hy : ¬ usesY (l.getD i nd0).op = true := fun h => by have h2 : usesX (opA l i) = true := usesY_X h; rw [h2] at hx; cases hx
  unfold tx
  rw [treeAt_eq ho hi, if_neg hy, if_neg (by unfold opA at hx; rw [hx]; decide)]
  rfl
theorem tx_un (ho : opsL l) (hi : i < l.length) (hx : usesX (opA l i) = true) (hy : usesY (opA l i) = false) : tx A F X l i = headB A X (l.getD i nd0) ++ en A F X l 5 (l.getD i nd0).x.toNat := by
  have hxl := (opsOk_x (ho i hi) hx).2
  unfold tx
  unfold opA at hx hy
  rw [treeAt_eq ho hi, if_neg (by rw [hy]; decide), if_pos hx, textP_un, en_eq ho (Nat.lt_trans hxl hi)]
  rfl
theorem tx_bin (ho : opsL l) (hi : i < l.length) (hy : usesY (opA l i) = true) : tx A F X l i =
    if opA l i = 16 then 91 :: 33 :: (tx A F X l (l.getD i nd0).x.toNat ++ 93 :: en A F X l 5 (l.getD i nd0).y.toNat)
    else if opA l i = 14 then 66 :: 91 :: ((A.getD (l.getD i nd0).i.toNat ByteArray.empty).data.toList ++ (condB (opA l (l.getD i nd0).x.toNat) (tx A F X l (l.getD i nd0).x.toNat) ++ 93 :: en A F X l 5 (l.getD i nd0).y.toNat))
    else if opA l i = 13 then 67 :: 91 :: (grpB A (l.getD i nd0).g.toNat ++ (condB (opA l (l.getD i nd0).x.toNat) (tx A F X l (l.getD i nd0).x.toNat) ++ 93 :: en A F X l 5 (l.getD i nd0).y.toNat))
    else en A F X l (leftN (opA l i)) (l.getD i nd0).x.toNat ++ 32 :: ((signW (opA l i)).data.toList ++ 32 :: en A F X l (rightN (opA l i)) (l.getD i nd0).y.toNat) := by
  have hxl := (opsOk_x (ho i hi) (usesY_X hy)).2
  have hyl := (opsOk_y (ho i hi) hy).2
  unfold opA at hy
  conv => lhs; unfold tx
  rw [treeAt_eq ho hi, if_pos hy, textP_bin, opTr_at ho (Nat.lt_trans hxl hi), en_eq ho (Nat.lt_trans hyl hi), en_eq ho (Nat.lt_trans hxl hi), en_eq ho (Nat.lt_trans hyl hi)]
  rfl
end
end Go.Proofs.Ws
